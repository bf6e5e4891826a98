import PyProof.Rows.All
import Wide.All
import OpenK.AllK
import Wide.FinOn
import PyProof.EqAt
import PyProof.EqKinds
import PyProof.TupleCall
import PyProof.NeKinds
import PyProof.Rows.BitMore
import PyProof.FitsBits
import PyProof.Rows.TupAssign
import PyProof.ListRange
import PyProof.Rows.ZipGen
import PyProof.StationsW
import PyProof.ExcInit
import PyProof.ExcClass2
import PyProof.RulesTry
import PyProof.ExcBaseAll.ValueError
import PyProof.InstStoreFacts
import PyProof.RulesAs
import PyProof.RulesDel
import PyProof.ExcArgs
import KE.KUnpack
import PyProof.Draws
import PyProof.EnumMake
import Lean
import PySem.Challenge.RW_slowroad_k62_whole_talks_of_states
set_option Elab.async false
set_option linter.all false
set_option compiler.extract_closed false
-- CHANGE: your row's module here, as the last of these rows
set_option maxRecDepth 100000
namespace L2
open PySem PySem.Spec PyProof.Rows

noncomputable abbrev Key := Sum Int Str
noncomputable def keyIs : Key → Value → Bool
  | .inl k, v => Value.isInt k v
  | .inr x, v => Value.isStrOf x v
noncomputable def keyH (w : World) : Key → Int
  | .inl k => hashInt k
  | .inr x => hashStr w x
theorem keyIs_shape : ∀ {k : Key} {v : Value}, keyIs k v = true → (∃ i t, k = Sum.inl i ∧ v = Value.int i t) ∨ (∃ x t, k = Sum.inr x ∧ v = Value.str x t)
  | .inl i, v, h => by
    obtain ⟨t, e⟩ := Value.isInt_shape (k := i) (v := v) h
    exact .inl ⟨i, t, rfl, e⟩
  | .inr x, v, h => by
    obtain ⟨t, e⟩ := Value.isStrOf_shape (x := x) (v := v) h
    exact .inr ⟨x, t, rfl, e⟩
theorem key_ll (a b : Int) : decide ((Sum.inl a : Key) = Sum.inl b) = (a == b) := by
  by_cases e : a = b
  · subst e; simp
  · have h : ¬ (Sum.inl a : Key) = Sum.inl b := fun q => e (Sum.inl.inj q)
    rw [decide_eq_false h]
    exact (beq_eq_false_iff_ne.mpr e).symm
theorem key_rr (a b : Str) : decide ((Sum.inr a : Key) = Sum.inr b) = decide (a = b) := by
  by_cases e : a = b
  · subst e; simp
  · have h : ¬ (Sum.inr a : Key) = Sum.inr b := fun q => e (Sum.inr.inj q)
    rw [decide_eq_false h, decide_eq_false e]
theorem key_lr (a : Int) (b : Str) : decide ((Sum.inl a : Key) = Sum.inr b) = false := decide_eq_false (fun q => nomatch q)
theorem key_rl (a : Str) (b : Int) : decide ((Sum.inr a : Key) = Sum.inl b) = false := decide_eq_false (fun q => nomatch q)

noncomputable def mixKind (prog : Program) (w : World) : PySem.KeyKind prog w Key where
  is := keyIs
  hash := keyH w
  inj := fun v a b ha hb => by
    rcases keyIs_shape ha with ⟨i, t, rfl, rfl⟩ | ⟨x, t, rfl, rfl⟩
    · rcases keyIs_shape hb with ⟨j, u, rfl, e⟩ | ⟨y, u, rfl, e⟩
      · injection e with e1 _; rw [e1]
      · exact nomatch e
    · rcases keyIs_shape hb with ⟨j, u, rfl, e⟩ | ⟨y, u, rfl, e⟩
      · exact nomatch e
      · injection e with e1 _; rw [e1]
  byValue := fun k v h => by
    rcases keyIs_shape h with ⟨i, t, rfl, rfl⟩ | ⟨x, t, rfl, rfl⟩ <;> rfl
  pyHash := fun hv h => by
    rcases keyIs_shape hv with ⟨i, t, rfl, rfl⟩ | ⟨x, t, rfl, rfl⟩
    · exact wpAny_pyHash_int h
    · exact wpAny_pyHash_str h
  eqBool := fun hu hv h => by
    rcases keyIs_shape hu with ⟨i, t, rfl, rfl⟩ | ⟨x, t, rfl, rfl⟩
    · rcases keyIs_shape hv with ⟨j, u, rfl, rfl⟩ | ⟨y, u, rfl, rfl⟩
      · rw [key_ll] at h; exact wpAny_eqBool_int h
      · rw [key_lr] at h; exact SeqAt.EqAt.int_str i t y u _ _ _ _ h
    · rcases keyIs_shape hv with ⟨j, u, rfl, rfl⟩ | ⟨y, u, rfl, rfl⟩
      · rw [key_rl] at h; exact SeqAt.EqAt.str_int x t j u _ _ _ _ h
      · rw [key_rr] at h; exact wpAny_eqBool_str h
  «strs» := fun k x t v h => by
    rcases keyIs_shape h with ⟨i, u, rfl, e⟩ | ⟨y, u, rfl, e⟩
    · exact nomatch e
    · injection e with e1 _
      subst e1
      cases v <;> rfl

end L2

namespace L2
open PySem PySem.Spec PyProof.Rows

inductive V where
  | non | bl (b : Bool) | int (i : Int) | str (x : Str) | byt (b : Array UInt8) | flt (b : UInt64) | ref (a : Addr) | ty (n : String)
  deriving DecidableEq

noncomputable def RelV : V → Value → Prop
  | .non, u => u = Value.none
  | .bl b, u => u = Value.bool b
  | .int i, u => ∃ t, u = Value.int i t
  | .str x, u => ∃ t, u = Value.str x t
  | .byt b, u => ∃ t, u = Value.bytes b t
  | .flt b, u => ∃ t, u = Value.float b t
  | .ref a, u => u = Value.ref a
  | .ty n, u => u = Value.type n

noncomputable abbrev Vals : List V → List Value → Prop := Paired RelV
theorem Vals.length {xs : List V} {us : List Value} (r : Vals xs us) : xs.length = us.length := Paired.length r
theorem Vals.get : ∀ {xs : List V} {us : List Value} {i : Nat} {x : V}, Vals xs us → xs[i]? = some x → ∃ u, us[i]? = some u ∧ RelV x u
  | _, _, _, _, .nil, e => by simp at e
  | _, _, 0, _, .cons r _, e => by simp at e; subst e; exact ⟨_, rfl, r⟩
  | _, _, i + 1, x, .cons _ t, e => by
    obtain ⟨u, h1, h2⟩ := Vals.get (i := i) (x := x) t (by simpa using e)
    exact ⟨u, by simpa using h1, h2⟩
theorem Vals.set {x : V} {u : Value} (r : RelV x u) : ∀ {xs : List V} {us : List Value} (i : Nat), Vals xs us → Vals (xs.set i x) (us.set i u)
  | _, _, _, .nil => .nil
  | _, _, 0, .cons _ t => .cons r t
  | _, _, i + 1, .cons q t => .cons q (Vals.set r i t)
theorem Vals.append : ∀ {xs ys : List V} {us ws : List Value}, Vals xs us → Vals ys ws → Vals (xs ++ ys) (us ++ ws)
  | _, _, _, _, .nil, s => s
  | _, _, _, _, .cons r t, s => .cons r (Vals.append t s)
theorem Vals.take : ∀ {xs : List V} {us : List Value} (n : Nat), Vals xs us → Vals (xs.take n) (us.take n)
  | _, _, 0, _ => .nil
  | _, _, _ + 1, .nil => .nil
  | _, _, n + 1, .cons r t => .cons r (Vals.take n t)
theorem Vals.drop : ∀ {xs : List V} {us : List Value} (n : Nat), Vals xs us → Vals (xs.drop n) (us.drop n)
  | _, _, 0, r => r
  | _, _, _ + 1, .nil => .nil
  | _, _, n + 1, .cons _ t => Vals.drop n t
noncomputable def RelO : Option V → Option Value → Prop
  | some v, some u => RelV v u
  | none, none => True
  | _, _ => False
noncomputable def KV {κ : Type} : List (κ × V) → List (κ × Value) → Prop := Paired fun (p : κ × V) (q : κ × Value) => p.1 = q.1 ∧ RelV p.2 q.2

noncomputable def kV : Key → V
  | .inl i => .int i
  | .inr x => .str x

inductive HO where
  /-- a list -/
  | lst (xs : List V)
  /-- a tuple (never changes) -/
  | tup (xs : List V)
  /-- a dict whose keys are ints and texts; one whose keys are tuples of ints and texts (the empty one is both) -/
  | dK (kvs : List (Key × V)) | dT (kvs : List (List Key × V))
  /-- a set of ints: its members, its size -/
  | set (S : Int → Bool) (n : Nat)
  /-- an instance of the class at C, its dict at dx, its attributes -/
  | ins (C dx : Addr) (fs : List (Str × V))
  /-- the dict of the instance at x -/
  | own (x : Addr)
  /-- the dict of an exception -/
  | xd (fs : List (Str × V))
  /-- a bound method, f of x -/
  | met (f x : Addr)
  /-- a range object lo, lo + 1, .. below hi -/
  | rng (lo hi : Int)
  /-- a thing that is known to the object (the script; a dict while a loop walks it): read, never written while it is so -/
  | frz (o : Obj) (u : HO)
  /-- a code object's table -/
  | tbl (ps : Array Value)
  /-- any other thing, by what is true of its one object (a def of one's own: SetO a S n := HO.ext fun h => ..) -/
  | ext (φ : Heap → Prop)

noncomputable abbrev Hp := Addr → Option HO
noncomputable def upd (H : Hp) (a : Addr) (o : HO) : Hp := fun b => if b = a then some o else H b
theorem upd_same {H : Hp} {a : Addr} {o : HO} : upd H a o a = some o := by unfold upd; rw [if_pos rfl]
theorem upd_ne {H : Hp} {a b : Addr} {o : HO} (h : b ≠ a) : upd H a o b = H b := by unfold upd; rw [if_neg h]
theorem upd_upd {H : Hp} {a : Addr} {o u : HO} : upd (upd H a o) a u = upd H a u := by
  funext b; unfold upd; split <;> rfl
theorem ne_of_none {H : Hp} {a b : Addr} {o : HO} (h : H a = some o) (h' : H b = none) : a ≠ b := by
  intro e; subst e; rw [h] at h'; cases h'

section
variable (P : Program) (w : World)
noncomputable def ObjOk (H : Hp) (h : Heap) (a : Addr) : HO → Prop
  | .lst xs => xs.length ≤ sizeLine ∧ ∃ (its : List Value) (n : Nat), Vals xs its ∧ h.get? a = some { cls := .type "list", data := .seq its.toArray n }
  | .tup xs => xs.length ≤ sizeLine ∧ ∃ its : List Value, Vals xs its ∧ IsTup h a its.toArray
  | .dK kvs => kvs.length ≤ sizeLine ∧ (a == sysModules) = false ∧ ∃ vs, KV kvs vs ∧ h.DictOf (mixKind P w) a vs
  | .dT kvs => kvs.length ≤ sizeLine ∧ (a == sysModules) = false ∧ ∃ xs : List (List Key × Addr × Value),
      Paired (fun (p : List Key × V) (q : List Key × Addr × Value) => p.1 = q.1 ∧ H q.2.1 = some (.tup (p.1.map kV)) ∧ RelV p.2 q.2.2) kvs xs ∧
      ∃ o es ep, h.get? a = some o ∧ o.ExactDict ∧ o.data = .dict es ep ∧ es.toList = xs.map (entryOfKey (tupleKind (mixKind P w))) ∧ (xs.map (·.1)).Nodup
  | .set S n => h.SetOf (intKind P w) a S n
  | .ins C dx fs => H dx = some (.own a) ∧ fs.length ≤ 1000 ∧ dx ≠ a ∧ h.get? a = some (PySem.W.instObj C dx) ∧
      ∃ mA, h.Ns1 dx mA ∧ (∀ f, RelO (fs.lookup f) (mA f)) ∧ PySem.Within mA (fs.map (·.1))
  | .own _ => ∃ o, h.get? a = some o
  | .xd fs => ∃ mA, h.Ns1 a mA ∧ ∀ f, RelO (fs.lookup f) (mA f)
  | .rng lo hi => ∃ t u v, h.get? a = some { cls := .type "range", data := .fields #[.int lo t, .int hi u, .int 1 v] }
  | .frz o u => h.get? a = some o ∧ ObjOk H h a u
  | .tbl ps => h.get? a = some { cls := .none, data := .fields ps }
  | .met f x => h.get? a = some (PySem.W.methodObj (.ref f) (.ref x))
  | .ext φ => φ h ∧ (∃ o, h.get? a = some o) ∧ ∀ h1 h2 : Heap, φ h1 → (∀ o, h1.get? a = some o → h2.get? a = some o) → φ h2
noncomputable def HOk (H : Hp) (h : Heap) : Prop := ∀ a o, H a = some o → ObjOk P w H h a o
end

section
variable {P : Program} {w : World} {H H' : Hp} {h h' : Heap} {a : Addr} {o : HO}
theorem ObjOk.lt (x : ObjOk P w H h a o) : a < h.objs.size := by
  cases o with
  | lst xs => obtain ⟨_, _, _, _, e⟩ := x; exact Heap.lt_size e
  | tup xs => obtain ⟨_, _, _, p⟩ := x; exact p.lt
  | dK kvs => obtain ⟨_, _, _, _, o, _, _, e, _⟩ := x; exact Heap.lt_size e
  | dT kvs => obtain ⟨_, _, _, _, o, _, _, e, _⟩ := x; exact Heap.lt_size e
  | set S n => obtain ⟨o, _, _, _, e, _⟩ := x; exact Heap.lt_size e
  | ins C dx fs => obtain ⟨_, _, _, e, _⟩ := x; exact Heap.lt_size e
  | own y => obtain ⟨_, e⟩ := x; exact Heap.lt_size e
  | xd fs => obtain ⟨_, ⟨_, _, _, e, _⟩, _⟩ := x; exact Heap.lt_size e
  | rng lo hi => obtain ⟨_, _, _, e⟩ := x; exact Heap.lt_size e
  | frz ob u => obtain ⟨e, _⟩ := x; exact Heap.lt_size e
  | tbl ps => exact Heap.lt_size (show h.get? a = some _ from x)
  | met f y => exact Heap.lt_size (show h.get? a = some _ from x)
  | ext φ => obtain ⟨_, ⟨_, e⟩, _⟩ := x; exact Heap.lt_size e
theorem Paired.mapP {α β : Type} {F G : α → β → Prop} : ∀ {l₁ : List α} {l₂ : List β}, Paired F l₁ l₂ → (∀ a b, F a b → G a b) → Paired G l₁ l₂
  | _, _, .nil, _ => .nil
  | _, _, .cons r t, f => .cons (f _ _ r) (Paired.mapP t f)
theorem ObjOk.stay (x : ObjOk P w H h a o) (k : ∀ b u, (b = a ∨ H b = some (.own a)) → h.get? b = some u → h'.get? b = some u)
    (ho : ∀ b, H b = some (.own a) → H' b = some (.own a)) (ht : ∀ b xs, H b = some (.tup xs) → H' b = some (.tup xs)) : ObjOk P w H' h' a o := by
  induction o with
  | lst xs => obtain ⟨z, its, n, r, e⟩ := x; exact ⟨z, its, n, r, k _ _ (.inl rfl) e⟩
  | tup xs => obtain ⟨z, its, r, ob, e, c⟩ := x; exact ⟨z, its, r, ob, k _ _ (.inl rfl) e, c⟩
  | dK kvs => obtain ⟨z, y, vs, r, ob, es, ep, e, c⟩ := x; exact ⟨z, y, vs, r, ob, es, ep, k _ _ (.inl rfl) e, c⟩
  | dT kvs =>
    obtain ⟨z, y, xs, r, ob, es, ep, e, c⟩ := x
    exact ⟨z, y, xs, Paired.mapP r fun p q z => ⟨z.1, ht _ _ z.2.1, z.2.2⟩, ob, es, ep, k _ _ (.inl rfl) e, c⟩
  | set S n => obtain ⟨ob, es, ep, t, e, c⟩ := x; exact ⟨ob, es, ep, t, k _ _ (.inl rfl) e, c⟩
  | ins C dx fs =>
    obtain ⟨d, z, ne, e, mA, ⟨od, es, ep, e2, c⟩, r⟩ := x
    exact ⟨ho _ d, z, ne, k _ _ (.inl rfl) e, mA, ⟨od, es, ep, k _ _ (.inr d) e2, c⟩, r⟩
  | own y => obtain ⟨ob, e⟩ := x; exact ⟨ob, k _ _ (.inl rfl) e⟩
  | xd fs => obtain ⟨mA, ⟨od, es, ep, e, c⟩, r⟩ := x; exact ⟨mA, ⟨od, es, ep, k _ _ (.inl rfl) e, c⟩, r⟩
  | rng lo hi => obtain ⟨t, u, v, e⟩ := x; exact ⟨t, u, v, k _ _ (.inl rfl) e⟩
  | frz ob u ih => obtain ⟨e, q⟩ := x; exact ⟨k _ _ (.inl rfl) e, ih q⟩
  | tbl ps =>
    have e : h.get? a = some { cls := .none, data := .fields ps } := x
    show h'.get? a = some { cls := .none, data := .fields ps }
    exact k a _ (.inl rfl) e
  | met f y =>
    have e : h.get? a = some (PySem.W.methodObj (.ref f) (.ref y)) := x
    show h'.get? a = some (PySem.W.methodObj (.ref f) (.ref y))
    exact k a _ (.inl rfl) e
  | ext φ => obtain ⟨p, ⟨o, e⟩, st⟩ := x; exact ⟨st _ _ p fun o q => k _ _ (.inl rfl) q, ⟨o, k _ _ (.inl rfl) e⟩, st⟩
theorem HOk.lt (x : HOk P w H h) (e : H a = some o) : a < h.objs.size := (x a o e).lt
theorem HOk.fresh (x : HOk P w H h) (e : h.objs.size ≤ a) : H a = none := by
  cases q : H a with
  | none => rfl
  | some u => exact absurd (Nat.lt_of_lt_of_le (x.lt q) e) (Nat.lt_irrefl _)
theorem HOk.kept (x : HOk P w H h) (k : ∀ b u, h.get? b = some u → h'.get? b = some u) : HOk P w H h' := fun a o e =>
  (x a o e).stay (fun b u _ q => k b u q) (fun _ q => q) fun _ _ q => q
theorem HOk.laid (x : HOk P w H h) (k : ∀ b u, h.get? b = some u → h'.get? b = some u) (hp : h.objs.size ≤ a) (new : ObjOk P w (upd H a o) h' a o) : HOk P w (upd H a o) h' := fun b u e => by
  have hn := x.fresh hp
  by_cases hb : b = a
  · subst hb; rw [upd_same] at e; cases e; exact new
  · rw [upd_ne hb] at e
    exact (x b u e).stay (fun c v _ q => k c v q) (fun c q => by rw [upd_ne (ne_of_none q hn)]; exact q) fun c xs q => by rw [upd_ne (ne_of_none q hn)]; exact q
end

noncomputable def Rd (H : Hp) (a : Addr) (u : HO) : Prop := H a = some u ∨ ∃ o, H a = some (.frz o u)
theorem Rd.ok {P : Program} {w : World} {H : Hp} {h : Heap} {a : Addr} {u : HO} (r : Rd H a u) (x : HOk P w H h) : ObjOk P w H h a u := by
  rcases r with r | ⟨o, r⟩
  · exact x a u r
  · obtain ⟨_, q⟩ := x a _ r
    exact q
noncomputable def Mut : Option HO → Prop
  | some (.lst _) => True
  | some (.dK _) => True
  | some (.dT _) => True
  | some (.set _ _) => True
  | some (.ins _ _ _) => True
  | some (.ext _) => True
  | _ => False
section
variable {P : Program} {w : World} {H : Hp} {h h' : Heap} {x e : Addr} {o' : HO}
theorem HOk.write (ok : HOk P w H h) (mu : Mut (H x)) (he : e = x ∨ H e = some (.own x)) (k : ∀ b u, b ≠ e → h.get? b = some u → h'.get? b = some u) (heo : ∃ u, h'.get? e = some u)
    (new : ObjOk P w (upd H x o') h' x o') : HOk P w (upd H x o') h' := fun b u q => by
  have nown : ∀ c y, H c = some (.own y) → c ≠ x := fun c y r z => by subst z; rw [r] at mu; exact mu
  have ntup : ∀ c xs, H c = some (.tup xs) → c ≠ x := fun c xs r z => by subst z; rw [r] at mu; exact mu
  by_cases hb : b = x
  · subst hb; rw [upd_same] at q; cases q; exact new
  · rw [upd_ne hb] at q
    by_cases hbe : b = e
    · have q' : H b = some (.own x) := by
        rcases he with z | z
        · exact absurd (hbe.trans z) hb
        · rw [hbe]; exact z
      rw [q] at q'; cases q'
      obtain ⟨v, hv⟩ := heo
      exact ⟨v, by rw [hbe]; exact hv⟩
    · refine (ok b u q).stay (fun c v hc r => k c v ?_ r) (fun c r => by rw [upd_ne (nown c b r)]; exact r) fun c xs r => by rw [upd_ne (ntup c xs r)]; exact r
      rcases hc with rfl | hc
      · exact hbe
      · rintro rfl
        rcases he with z | z
        · exact nown c b hc z
        · rw [hc] at z; cases z; exact hb rfl
end

structure Un (fs ex : List Addr) (H H' : Hp) (h h' : Heap) : Prop where
  keep : ∀ b o, h.get? b = some o → H b = none → b ∉ fs → b ∉ ex → h'.get? b = some o
  slot : ∀ b o, h.get? b = some o → H b = none → b ∈ fs → b ∉ ex → ∃ sl, h'.get? b = some { o with slots := sl }
  free : ∀ b o, h.get? b = some o → H b = none → b ∉ ex → H' b = none
  there : ∀ b o, h.get? b = some o → b ∉ ex → ∃ o', h'.get? b = some o'
  tups : ∀ b xs, H b = some (.tup xs) → H' b = some (.tup xs)
  frzs : ∀ b o u, H b = some (.frz o u) → H' b = some (.frz o u)
  tbls : ∀ b ps, H b = some (.tbl ps) → ∃ more, H' b = some (.tbl (ps ++ more))
section
variable {fs fs' ex ex' : List Addr} {H H1 H2 : Hp} {h h1 h2 h' : Heap} {a x e : Addr} {o : HO}
theorem Un.any (u : Un fs ex H H1 h h1) {b : Addr} {ob : Obj} (q : h.get? b = some ob) (n : H b = none) (hx : b ∉ ex) : ∃ sl, h1.get? b = some { ob with slots := sl } := by
  by_cases hb : b ∈ fs
  · exact u.slot b ob q n hb hx
  · exact ⟨ob.slots, u.keep b ob q n hb hx⟩
theorem Un.kept (k : ∀ b u, h.get? b = some u → h'.get? b = some u) : Un fs ex H H h h' :=
  ⟨fun b ob q _ _ _ => k b ob q, fun b ob q _ _ _ => ⟨ob.slots, k b ob q⟩, fun _ _ _ n _ => n, fun b ob q _ => ⟨ob, k b ob q⟩, fun _ _ q => q, fun _ _ _ q => q, fun _ ps q => ⟨#[], by rw [q]; simp⟩⟩
theorem Un.refl : Un fs ex H H h h := Un.kept fun _ _ q => q
theorem Un.laid (k : ∀ b u, h.get? b = some u → h'.get? b = some u) (hp : h.objs.size ≤ a) (hn : H a = none) : Un fs ex H (upd H a o) h h' where
  keep := fun b u q _ _ _ => k b u q
  slot := fun b u q _ _ _ => ⟨u.slots, k b u q⟩
  free := fun b u q n _ => by rw [upd_ne (Nat.ne_of_lt (Nat.lt_of_lt_of_le (Heap.lt_size q) hp))]; exact n
  there := fun b u q _ => ⟨u, k b u q⟩
  tups := fun b xs q => by rw [upd_ne (ne_of_none q hn)]; exact q
  frzs := fun b u xs q => by rw [upd_ne (ne_of_none q hn)]; exact q
  tbls := fun b ps q => ⟨#[], by rw [upd_ne (ne_of_none q hn), q]; simp⟩
theorem Un.write (mu : Mut (H x)) (he : e = x ∨ H e = some (.own x)) (k : ∀ b u, b ≠ e → h.get? b = some u → h'.get? b = some u) (heo : ∃ u, h'.get? e = some u) : Un fs ex H (upd H x o) h h' := by
  have hx : ∀ b, H b = none → b ≠ x := fun b n z => by subst z; rw [n] at mu; exact mu
  have hb : ∀ b, H b = none → b ≠ e := fun b n z => by
    subst z
    rcases he with r | r
    · exact hx b n r
    · rw [n] at r; cases r
  have hm : ∀ b u, H b = some u → ¬ Mut (some u) → b ≠ x := fun b u q nm z => by subst z; rw [q] at mu; exact nm mu
  refine ⟨fun b u q n _ _ => k b u (hb b n) q, fun b u q n _ _ => ⟨u.slots, k b u (hb b n) q⟩, fun b u q n _ => by rw [upd_ne (hx b n)]; exact n, fun b u q _ => ?_,
    fun b xs q => by rw [upd_ne (hm b _ q fun z => z)]; exact q, fun b u xs q => by rw [upd_ne (hm b _ q fun z => z)]; exact q, fun b ps q => ⟨#[], by rw [upd_ne (hm b _ q fun z => z), q]; simp⟩⟩
  by_cases hbe : b = e
  · subst hbe; exact heo
  · exact ⟨u, k b u hbe q⟩
end

noncomputable def trk (h : Heap) (H : Hp) : List Addr := (List.range h.objs.size).filter fun a => (H a).isSome
noncomputable def hidT (h : Heap) (H : Hp) : Heap := PySem.W.hideAll h (trk h H)
theorem hidT_size (h : Heap) (H : Hp) : (hidT h H).objs.size = h.objs.size := PySem.W.hideAll_size _ _
theorem hidT_get {h : Heap} {H : Hp} {b : Addr} {o : Obj} (e : h.get? b = some o) (n : H b = none) : (hidT h H).get? b = some o :=
  PySem.W.hideAll_get _ e fun hm => by
    have q : (H b).isSome = true := (List.mem_filter.mp hm).2
    rw [n] at q; simp at q
theorem of_hidT {h : Heap} {H : Hp} {b : Addr} {o : Obj} (e : (hidT h H).get? b = some o) : h.get? b = some o ∧ H b = none := by
  have e' : h.get? b = some o := PySem.W.of_hideAll (trk h H) e
  refine ⟨e', ?_⟩
  cases q : H b with
  | none => rfl
  | some x =>
    have hm : b ∈ trk h H := List.mem_filter.mpr ⟨List.mem_range.mpr (Heap.lt_size e'), by simp [q]⟩
    have z : (hidT h H).get? b = none := PySem.W.hideAll_none (trk h H) hm
    rw [z] at e; cases e

end L2

namespace L2
open PySem PySem.Spec PyProof.Rows

structure Mod (K : PySem.W.Frag) (mg : Str → Option Value) (base : Heap) : Prop where
  kin : K.In base
  glob : base.Ns mainGlobals mg
  blt : ∃ mb, base.Ns builtinsNs mb ∧ ∀ x : Str, x ≠ "__name__" → mb x = bootBuiltins x
  nolimit : base.NoLimit

structure Cx where
  prog : Program
  w : World
  K : PySem.W.Frag
  mg : Str → Option Value
  base : Heap
  A : Around
  N : List Str
  s₀ : Shared
  H₀ : Hp
  env : Env
  outer : List Env
  stack : List Env
  ex : List Addr
  fn : Str → Bool
  calm : Bool
  pn : List (Addr × Obj)
  xe : Value → Shared → Prop
noncomputable def frs (l : List Env) : List Addr := l.filterMap (·.frame)
noncomputable abbrev Cx.fs (X : Cx) : List Addr := frs X.outer

noncomputable def Vis (sc : Scope) (x : Str) : Prop := sc.names.lookup x = some .local ∨ sc.names.lookup x = some .cell ∨ sc.names.lookup x = some .free
noncomputable def Loc (sc : Scope) (x : Str) : Prop := sc.names.lookup x = some .local ∨ sc.names.lookup x = some .cell
noncomputable def Look (env : Env) (h : Heap) (m : Str → Option Value) (x : Str) (u : Value) : Prop :=
  (env.kindOf x = some .local ∧ m x = some u) ∨ ((env.kindOf x = some .cell ∨ env.kindOf x = some .free) ∧ ∃ c, env.cells.lookup x = some c ∧ h.IsCell c (some u))

structure Cx.Ok (X : Cx) : Prop where
  mod : Mod X.K X.mg X.base
  kind : X.env.scope.kind = .function
  glob : X.env.globals = mainGlobals
  blt : X.env.builtins = builtinsNs
  above : X.s₀.heap.objs.size ≤ X.env.locals
  inj : ∀ x y c, X.env.cells.lookup x = some c → X.env.cells.lookup y = some c → x = y
  has : ∀ x, (X.env.kindOf x = some .cell ∨ X.env.kindOf x = some .free) → ∃ c, X.env.cells.lookup x = some c
  cab : ∀ x c, X.fn x = true → X.env.cells.lookup x = some c → X.s₀.heap.objs.size ≤ c
  hd : X.calm = true → X.A.handled = none
  frames : X.A.frames = some X.stack
  stk : X.stack = X.outer ∨ (X.stack = X.env :: X.outer ∧ X.env.frame = some X.env.locals)
  exf : ∀ b ∈ X.ex, b ≠ X.env.locals ∧ ∀ x c, X.env.cells.lookup x = some c → c ≠ b
  bs : ∀ b o, X.base.get? b = some o → X.s₀.heap.get? b = some o ∧ X.H₀ b = none
  bsz : X.base.objs.size ≤ X.s₀.heap.objs.size
  noex : ∀ b o, X.base.get? b = some o → b ∉ X.ex
  exfs : ∀ b ∈ X.ex, b ∉ X.fs
  funs : X.s₀.heap.FunFrames X.base X.outer
  frf : ∀ b ∈ X.fs, X.H₀ b = none

structure Inv (X : Cx) (pins : List (Addr × Obj)) (σ : List (Option V)) (H : Hp) (s : Shared) : Prop where
  ok : X.Ok
  os : s.os = X.s₀.os
  bare : AllBare s.gens
  base : Un X.fs X.ex X.H₀ H X.s₀.heap s.heap
  loc : ∃ m, s.heap.Ns X.env.locals m ∧ ∀ (i : Nat) (x : Str) (v : V), X.N[i]? = some x → σ[i]? = some (some v) → Vis X.env.scope x → ∃ u, RelV v u ∧ Look X.env s.heap m x u
  cell : ∀ x c, X.env.cells.lookup x = some c → ∃ v, s.heap.IsCell c v
  free : H X.env.locals = none
  freeC : ∀ x c, X.env.cells.lookup x = some c → H c = none
  pin : ∀ p ∈ X.pn ++ pins, s.heap.get? p.1 = some p.2 ∧ H p.1 = none ∧ p.1 ≠ X.env.locals ∧ p.1 ∉ X.fs ∧ ∀ v, p.2.data ≠ .cell v
  hok : HOk X.prog X.w H s.heap
  len : σ.length = X.N.length

section
variable {X : Cx} {pins : List (Addr × Obj)} {σ : List (Option V)} {H H' : Hp} {s : Shared} {h' : Heap}

theorem Cx.Ok.nofr (ok : X.Ok) {b : Addr} {o : Obj} (e : X.base.get? b = some o) : b ∉ X.fs := fun hb => by
  have := (ok.funs.mem hb).1
  rw [e] at this; cases this
theorem Inv.bs (I : Inv X pins σ H s) : ∀ b o, X.base.get? b = some o → s.heap.get? b = some o ∧ H b = none := fun b o e =>
  ⟨I.base.keep b o (I.ok.bs b o e).1 (I.ok.bs b o e).2 (I.ok.nofr e) (I.ok.noex b o e), I.base.free b o (I.ok.bs b o e).1 (I.ok.bs b o e).2 (I.ok.noex b o e)⟩
theorem Inv.bk (I : Inv X pins σ H s) : ∀ b o, X.base.get? b = some o → s.heap.get? b = some o := fun b o e => (I.bs b o e).1
theorem Inv.mod (I : Inv X pins σ H s) : Mod X.K X.mg X.base := I.ok.mod
theorem Inv.kIn (I : Inv X pins σ H s) : X.K.In s.heap := I.ok.mod.kin.keeps I.bk
theorem Inv.lt (I : Inv X pins σ H s) : X.env.locals < s.heap.objs.size := let ⟨_, hn, _⟩ := I.loc; hn.lt
theorem Inv.sz (I : Inv X pins σ H s) : X.s₀.heap.objs.size ≤ s.heap.objs.size := Nat.le_trans I.ok.above (Nat.le_of_lt I.lt)
theorem Inv.nofs (I : Inv X pins σ H s) {a : Addr} (h : s.heap.objs.size ≤ a) : a ∉ X.fs := fun hb => by
  obtain ⟨_, o, ho, _⟩ := I.ok.funs.mem hb
  exact absurd (Nat.lt_of_lt_of_le (Heap.lt_size ho) (Nat.le_trans I.sz h)) (Nat.lt_irrefl _)
theorem Inv.cne (I : Inv X pins σ H s) : ∀ x c, X.env.cells.lookup x = some c → c ≠ X.env.locals := fun x c e z => by
  obtain ⟨v, o, ho, hd⟩ := I.cell x c e
  obtain ⟨m, ⟨o', es, ep, ho', hd', _⟩, _⟩ := I.loc
  rw [z, ho'] at ho; cases ho; rw [hd'] at hd; cases hd
theorem Inv.funs (I : Inv X pins σ H s) : s.heap.FunFrames X.base X.outer := by
  have all : ∀ (l : List Env), (∀ b ∈ frs l, b ∈ X.fs) → X.s₀.heap.FunFrames X.base l → s.heap.FunFrames X.base l := by
    intro l
    induction l with
    | nil => intro _ _; trivial
    | cons env r ih =>
      intro hs hl
      obtain ⟨hk, ⟨L, o, hf, hn, ho, hd⟩, hr⟩ := hl
      have hL : L ∈ X.fs := hs L (by unfold frs; rw [List.filterMap_cons, hf]; exact List.mem_cons_self)
      obtain ⟨sl, e⟩ := I.base.slot L o ho (I.ok.frf L hL) hL fun z => I.ok.exfs L z hL
      exact ⟨hk, ⟨L, _, hf, hn, e, hd⟩, ih (fun b hb => hs b (by unfold frs; rw [List.filterMap_cons, hf]; exact List.mem_cons_of_mem _ hb)) hr⟩
  exact all X.outer (fun _ hb => hb) I.ok.funs

theorem Inv.stack (I : Inv X pins σ H s) : s.heap.FunFrames X.base X.stack := by
  rcases I.ok.stk with e | ⟨e, hf⟩
  · rw [e]; exact I.funs
  · rw [e]
    obtain ⟨m, hn, _⟩ := I.loc
    refine .cons (by rw [I.ok.kind]; decide) hf hn ?_ I.funs
    exact Heap.get?_none_of_le (Nat.le_trans I.ok.bsz I.ok.above)
theorem Inv.stkSub (I : Inv X pins σ H s) : ∀ b ∈ frs X.stack, b ∈ X.env.locals :: X.fs := fun b hb => by
  rcases I.ok.stk with e | ⟨e, hf⟩
  · rw [e] at hb; exact List.mem_cons_of_mem _ hb
  · rw [e] at hb
    unfold frs at hb
    rw [List.filterMap_cons, hf] at hb
    exact hb
theorem Inv.stkFree (I : Inv X pins σ H s) : ∀ b ∈ frs X.stack, H b = none := fun b hb => by
  rcases List.mem_cons.mp (I.stkSub b hb) with e | hb
  · rw [e]; exact I.free
  · obtain ⟨_, o, ho, _⟩ := I.ok.funs.mem hb
    exact I.base.free b o ho (I.ok.frf b hb) fun z => I.ok.exfs b z hb

theorem Inv.step {g' : Array GenState} {t' : Nat} {d' : Drawn} {ch : List Addr} (I : Inv X pins σ H s)
    (hch : ∀ b ∈ ch, (b ∈ X.ex ∨ X.s₀.heap.objs.size ≤ b) ∧ b ≠ X.env.locals ∧ (∀ x c, X.env.cells.lookup x = some c → c ≠ b) ∧ ∀ p ∈ X.pn ++ pins, p.1 ≠ b)
    (keep : ∀ b o, b ≠ X.env.locals → b ∉ X.fs → b ∉ ch → s.heap.get? b = some o → H b = none → h'.get? b = some o)
    (slot : ∀ b o, b ≠ X.env.locals → b ∈ X.fs → b ∉ ch → s.heap.get? b = some o → H b = none → ∃ sl, h'.get? b = some { o with slots := sl }) (free : ∀ b o, b ∉ ch → s.heap.get? b = some o → H b = none → H' b = none)
    (there : ∀ b o, b ∉ ch → s.heap.get? b = some o → ∃ o', h'.get? b = some o')
    (tups : ∀ b xs, H b = some (.tup xs) → H' b = some (.tup xs)) (frzs : ∀ b o u, H b = some (.frz o u) → H' b = some (.frz o u)) (tbls : ∀ b ps, H b = some (.tbl ps) → ∃ more, H' b = some (.tbl (ps ++ more)))
    (ns : ∀ m, s.heap.Ns X.env.locals m → h'.Ns X.env.locals m) (hok : HOk X.prog X.w H' h') (hg : AllBare g') :
    Inv X pins σ H' { s with heap := h', gens := g', drawn := d', toks := t' } := by
  have neL : ∀ b o, X.s₀.heap.get? b = some o → b ≠ X.env.locals := fun b o e => Nat.ne_of_lt (Nat.lt_of_lt_of_le (Heap.lt_size e) I.ok.above)
  have neC : ∀ b o, X.s₀.heap.get? b = some o → b ∉ X.ex → b ∉ ch := fun b o e hx hb => by
    rcases (hch b hb).1 with z | z
    · exact hx z
    · exact absurd (Nat.lt_of_lt_of_le (Heap.lt_size e) z) (Nat.lt_irrefl _)
  have cellK : ∀ x c, X.env.cells.lookup x = some c → ∀ v, s.heap.IsCell c v → h'.IsCell c v := fun x c e v ⟨o, ho, hd⟩ => by
    have nch : c ∉ ch := fun z => (hch c z).2.2.1 x c e rfl
    by_cases hc : c ∈ X.fs
    · obtain ⟨sl, q⟩ := slot c o (I.cne x c e) hc nch ho (I.freeC x c e)
      exact ⟨_, q, hd⟩
    · exact ⟨o, keep c o (I.cne x c e) hc nch ho (I.freeC x c e), hd⟩
  refine ⟨I.ok, I.os, hg, ⟨fun b o e n hb hx => ?_, fun b o e n hb hx => ?_, fun b o e n hx => ?_, fun b o e hx => ?_, fun b xs e => tups b xs (I.base.tups b xs e), fun b o xs e => frzs b o xs (I.base.frzs b o xs e), fun b ps e => ?_⟩, ?_, fun x c e => ?_, ?_, fun x c e => ?_, fun p hp => ?_, hok, I.len⟩
  · exact keep b o (neL b o e) hb (neC b o e hx) (I.base.keep b o e n hb hx) (I.base.free b o e n hx)
  · obtain ⟨sl, e1⟩ := I.base.slot b o e n hb hx
    obtain ⟨sl', e2⟩ := slot b _ (neL b o e) hb (neC b o e hx) e1 (I.base.free b o e n hx)
    exact ⟨sl', e2⟩
  · obtain ⟨o', e1⟩ := I.base.there b o e hx
    exact free b o' (neC b o e hx) e1 (I.base.free b o e n hx)
  · obtain ⟨o', e1⟩ := I.base.there b o e hx
    exact there b o' (neC b o e hx) e1
  · obtain ⟨m1, e1⟩ := I.base.tbls b ps e
    obtain ⟨m2, e2⟩ := tbls b _ e1
    exact ⟨m1 ++ m2, by rw [e2, Array.append_assoc]⟩
  · obtain ⟨m, hn, hl⟩ := I.loc
    refine ⟨m, ns m hn, fun i x v e1 e2 e3 => ?_⟩
    obtain ⟨u, r, l⟩ := hl i x v e1 e2 e3
    refine ⟨u, r, ?_⟩
    rcases l with l | ⟨k, c, e, z⟩
    · exact .inl l
    · exact .inr ⟨k, c, e, cellK x c e _ z⟩
  · obtain ⟨v, z⟩ := I.cell x c e
    exact ⟨v, cellK x c e v z⟩
  · obtain ⟨m, ⟨o, _, _, ho, _⟩, _⟩ := I.loc
    exact free _ o (fun z => (hch _ z).2.1 rfl) ho I.free
  · obtain ⟨v, o, ho, hd⟩ := I.cell x c e
    exact free c o (fun z => (hch c z).2.2.1 x c e rfl) ho (I.freeC x c e)
  · obtain ⟨e, n, ne, nf, d⟩ := I.pin p hp
    have nch : p.1 ∉ ch := fun z => (hch p.1 z).2.2.2 p hp rfl
    exact ⟨keep p.1 p.2 ne nf nch e n, free p.1 p.2 nch e n, ne, nf, d⟩
theorem Inv.un {t' : Nat} (I : Inv X pins σ H s) (u : Un X.fs [] H H' s.heap h') (hok : HOk X.prog X.w H' h') : Inv X pins σ H' { s with heap := h', toks := t' } := by
  obtain ⟨m, ⟨o, es, ep, ho, r⟩, _⟩ := id I.loc
  obtain ⟨sl, hL⟩ := u.any ho I.free (by simp)
  exact I.step (g' := s.gens) (d' := s.drawn) (ch := []) (fun _ z => nomatch z) (fun b o _ hb _ e n => u.keep b o e n hb (by simp)) (fun b o _ hb _ e n => u.slot b o e n hb (by simp)) (fun b o _ e n => u.free b o e n (by simp)) (fun b o _ e => u.there b o e (by simp)) u.tups u.frzs u.tbls (fun m' hm => by
    obtain ⟨o', es', ep', ho', r'⟩ := hm
    rw [ho] at ho'; cases ho'
    exact ⟨_, es', ep', hL, r'⟩) hok I.bare
theorem Inv.call {g' : Array GenState} {t' : Nat} {d' : Drawn} {ch : List Addr} (I : Inv X pins σ H s) (u : Un (frs X.stack) ch H H' s.heap h') (hok : HOk X.prog X.w H' h') (hg : AllBare g')
    (hch : ∀ b ∈ ch, (b ∈ X.ex ∨ X.s₀.heap.objs.size ≤ b) ∧ b ≠ X.env.locals ∧ (∀ x c, X.env.cells.lookup x = some c → c ≠ b) ∧ ∀ p ∈ X.pn ++ pins, p.1 ≠ b) :
    Inv X pins σ H' { s with heap := h', gens := g', drawn := d', toks := t' } := by
  obtain ⟨m, ⟨o, es, ep, ho, r⟩, _⟩ := id I.loc
  obtain ⟨sl, hL⟩ := u.any ho I.free fun z => (hch _ z).2.1 rfl
  exact I.step (ch := ch) hch (fun b o hL hb hc e n => u.keep b o e n (fun z => (List.mem_cons.mp (I.stkSub b z)).elim hL hb) hc) (fun b o _ _ hc e n => u.any e n hc) (fun b o hc e n => u.free b o e n hc) (fun b o hc e => u.there b o e hc) u.tups u.frzs u.tbls (fun m' hm => by
    obtain ⟨o', es', ep', ho', r'⟩ := hm
    rw [ho] at ho'; cases ho'
    exact ⟨_, es', ep', hL, r'⟩) hok hg
theorem Inv.turned {t' : Nat} {it : Addr} (I : Inv X pins σ H s) (k : ∀ b o, b ≠ it → s.heap.get? b = some o → h'.get? b = some o) (hn : H it = none) (hL : it ≠ X.env.locals)
    (h1 : it ∈ X.ex ∨ X.s₀.heap.objs.size ≤ it) (h2 : ∀ x c, X.env.cells.lookup x = some c → c ≠ it) (h3 : ∀ p ∈ X.pn ++ pins, p.1 ≠ it) : Inv X pins σ H { s with heap := h', toks := t' } := by
  have nit : ∀ b u, H b = some u → b ≠ it := fun b u e z => by rw [z, hn] at e; cases e
  refine I.step (g' := s.gens) (d' := s.drawn) (ch := [it]) (fun b hb => ?_) (fun b o _ _ hc e _ => k b o (fun z => hc (by simp [z])) e) (fun b o _ _ hc e _ => ⟨o.slots, k b o (fun z => hc (by simp [z])) e⟩) (fun _ _ _ _ n => n)
    (fun b o hc e => ⟨o, k b o (fun z => hc (by simp [z])) e⟩) (fun _ _ e => e) (fun _ _ _ e => e) (fun b ps e => ⟨#[], by rw [e]; simp⟩) (fun m hm => ?_) (fun b u e => ?_) I.bare
  · have e : b = it := by simpa using hb
    subst e
    exact ⟨h1, hL, h2, h3⟩
  · obtain ⟨o, es, ep, ho, r⟩ := hm
    exact ⟨o, es, ep, k _ o (Ne.symm hL) ho, r⟩
  · refine (I.hok b u e).stay (fun c v hc q => k c v ?_ q) (fun _ q => q) fun _ _ q => q
    rcases hc with z | z
    · rw [z]; exact nit b u e
    · exact nit c _ z
theorem Inv.tok (I : Inv X pins σ H s) (t : Nat) : Inv X pins σ H { s with toks := t } := I.un (h' := s.heap) (t' := t) Un.refl I.hok
theorem Inv.kept {t' : Nat} (I : Inv X pins σ H s) (k : ∀ b u, s.heap.get? b = some u → h'.get? b = some u) : Inv X pins σ H { s with heap := h', toks := t' } := I.un (Un.kept k) (I.hok.kept k)
theorem Inv.laid {a : Addr} {o : HO} {t' : Nat} (I : Inv X pins σ H s) (k : ∀ b u, s.heap.get? b = some u → h'.get? b = some u) (hp : s.heap.objs.size ≤ a) (new : ObjOk X.prog X.w (upd H a o) h' a o) :
    Inv X pins σ (upd H a o) { s with heap := h', toks := t' } := I.un (Un.laid k hp (I.hok.fresh hp)) (I.hok.laid k hp new)
theorem Inv.write {x e : Addr} {o : HO} {t' : Nat} (I : Inv X pins σ H s) (mu : Mut (H x)) (he : e = x ∨ H e = some (.own x)) (k : ∀ b u, b ≠ e → s.heap.get? b = some u → h'.get? b = some u) (heo : ∃ u, h'.get? e = some u)
    (new : ObjOk X.prog X.w (upd H x o) h' x o) : Inv X pins σ (upd H x o) { s with heap := h', toks := t' } := I.un (Un.write mu he k heo) (I.hok.write mu he k heo new)
theorem Inv.pins_of {pins' : List (Addr × Obj)} (I : Inv X pins σ H s) (h : ∀ p ∈ pins', s.heap.get? p.1 = some p.2 ∧ H p.1 = none ∧ p.1 ≠ X.env.locals ∧ p.1 ∉ X.fs ∧ ∀ v, p.2.data ≠ .cell v) : Inv X pins' σ H s :=
  ⟨I.ok, I.os, I.bare, I.base, I.loc, I.cell, I.free, I.freeC, fun p hp => (List.mem_append.mp hp).elim (fun z => I.pin p (List.mem_append_left _ z)) (h p), I.hok, I.len⟩

theorem nodup_ix {N : List Str} (hN : N.Nodup) {i j : Nat} {x : Str} (a : N[i]? = some x) (b : N[j]? = some x) : i = j := by
  obtain ⟨h1, e1⟩ := List.getElem?_eq_some_iff.mp a
  obtain ⟨h2, e2⟩ := List.getElem?_eq_some_iff.mp b
  exact (List.getElem_inj hN).mp (e1.trans e2.symm)

theorem store_ok2 {M : Model} {A : Around} {E : Value → Shared → Prop} {i : Nat} {x : Str} {v : V} {u : Value} {Q : Unit → Shared → Prop} (I : Inv X pins σ H s) (hN : X.N.Nodup) (hi : X.N[i]? = some x) (hx : Loc X.env.scope x) (r : RelV v u)
    (h : ∀ s', Inv X pins (σ.set i (some v)) H s' → (∃ a, Heap.SameBut a s.heap s'.heap ∧ (a = X.env.locals ∨ X.env.cells.lookup x = some a)) → Q () s') (hf : X.fn x = true ∨ X.env.scope.names.lookup x = some .local := by first | exact .inl rfl | exact .inr rfl | assumption) : wpAny M A (storeName X.env x u) Q E s := by
  obtain ⟨m, hn, hl⟩ := id I.loc
  have hcls : (X.env.scope.kind == .class || (X.env.scope.kind == .module && X.env.locals != X.env.globals)) = false := by rw [I.ok.kind]; rfl
  have hiσ : i < σ.length := by rw [I.len]; exact (List.getElem?_eq_some_iff.mp hi).1
  have cne := I.cne
  have tracked : ∀ {a : Addr} {h' : Heap}, (∃ o, s.heap.get? a = some o ∧ H a = none) → Heap.SameBut a s.heap h' → HOk X.prog X.w H h' := fun {a h'} ha hs b ob e => by
    obtain ⟨_, _, hfree⟩ := ha
    refine (I.hok b ob e).stay (fun c w' hc q => (hs.2 c ?_).trans q) (fun _ q => q) fun _ _ q => q
    rintro rfl
    rcases hc with rfl | hc
    · rw [hfree] at e; cases e
    · rw [hfree] at hc; cases hc
  rcases hx with hk | hk
  · refine wpAny_storeName_local hk hn (fun h' hn' hs => ?_) hcls
    obtain ⟨oL, _, _, hoL, _⟩ := id hn
    refine h _ ⟨I.ok, I.os, I.bare, ⟨fun b o e n hb hx => ?_, fun b o e n hb hx => ?_, I.base.free, fun b o e hx => ?_, I.base.tups, I.base.frzs, I.base.tbls⟩, ⟨_, hn', fun j y v' e1 e2 e3 => ?_⟩, fun y c e => ?_, I.free, I.freeC, fun p hp => ?_, tracked ⟨oL, hoL, I.free⟩ hs, by simpa using I.len⟩ ⟨_, hs, .inl rfl⟩
    · exact (hs.2 b (Nat.ne_of_lt (Nat.lt_of_lt_of_le (Heap.lt_size e) I.ok.above))).trans (I.base.keep b o e n hb hx)
    · obtain ⟨sl, e1⟩ := I.base.slot b o e n hb hx
      exact ⟨sl, (hs.2 b (Nat.ne_of_lt (Nat.lt_of_lt_of_le (Heap.lt_size e) I.ok.above))).trans e1⟩
    · obtain ⟨o', e1⟩ := I.base.there b o e hx
      exact ⟨o', (hs.2 b (Nat.ne_of_lt (Nat.lt_of_lt_of_le (Heap.lt_size e) I.ok.above))).trans e1⟩
    · by_cases hj : j = i
      · subst hj
        rw [hi] at e1; cases e1
        rw [List.getElem?_set_self hiσ] at e2
        cases e2
        exact ⟨u, r, .inl ⟨hk, by simp⟩⟩
      · rw [List.getElem?_set_ne (Ne.symm hj)] at e2
        obtain ⟨u', r', q⟩ := hl j y v' e1 e2 e3
        refine ⟨u', r', ?_⟩
        rcases q with ⟨k, e⟩ | ⟨k, c, e, z⟩
        · refine .inl ⟨k, ?_⟩
          have : y ≠ x := fun e => hj (nodup_ix hN e1 (e ▸ hi))
          simp [this, e]
        · exact .inr ⟨k, c, e, z.sameBut hs (cne y c e)⟩
    · obtain ⟨w', z⟩ := I.cell y c e
      exact ⟨w', z.sameBut hs (cne y c e)⟩
    · obtain ⟨e, n, ne, nf, d⟩ := I.pin p hp
      exact ⟨(hs.2 p.1 ne).trans e, n, ne, nf, d⟩
  · have hfn : X.fn x = true := by
      rcases hf with z | z
      · exact z
      · rw [z] at hk; cases hk
    obtain ⟨c, hc⟩ := I.ok.has x (.inl hk)
    obtain ⟨w', z⟩ := I.cell x c hc
    refine wpAny_storeName_cell I.ok.kind hk hc z (fun h' hc' hs => ?_)
    obtain ⟨oc, hoc, hocd⟩ := id z
    refine h { s with heap := h' } ⟨I.ok, I.os, I.bare, ⟨fun b o e n hb hx => ?_, fun b o e n hb hx => ?_, I.base.free, fun b o e hx => ?_, I.base.tups, I.base.frzs, I.base.tbls⟩, ⟨m, hn.sameBut hs (Ne.symm (cne x c hc)), fun j y v' e1 e2 e3 => ?_⟩, fun y c' e => ?_, I.free, I.freeC, fun p hp => ?_, tracked ⟨oc, hoc, I.freeC x c hc⟩ hs, by simpa using I.len⟩ ⟨c, hs, .inr hc⟩
    · exact (hs.2 b (Nat.ne_of_lt (Nat.lt_of_lt_of_le (Heap.lt_size e) (I.ok.cab x c hfn hc)))).trans (I.base.keep b o e n hb hx)
    · obtain ⟨sl, e1⟩ := I.base.slot b o e n hb hx
      exact ⟨sl, (hs.2 b (Nat.ne_of_lt (Nat.lt_of_lt_of_le (Heap.lt_size e) (I.ok.cab x c hfn hc)))).trans e1⟩
    · obtain ⟨o', e1⟩ := I.base.there b o e hx
      exact ⟨o', (hs.2 b (Nat.ne_of_lt (Nat.lt_of_lt_of_le (Heap.lt_size e) (I.ok.cab x c hfn hc)))).trans e1⟩
    · by_cases hj : j = i
      · subst hj
        rw [hi] at e1; cases e1
        rw [List.getElem?_set_self hiσ] at e2
        cases e2
        exact ⟨u, r, .inr ⟨.inl hk, c, hc, hc'⟩⟩
      · rw [List.getElem?_set_ne (Ne.symm hj)] at e2
        obtain ⟨u', r', q⟩ := hl j y v' e1 e2 e3
        refine ⟨u', r', ?_⟩
        rcases q with q | ⟨k, c', e, z'⟩
        · exact .inl q
        · refine .inr ⟨k, c', e, z'.sameBut hs ?_⟩
          rintro rfl
          exact hj (nodup_ix hN e1 (I.ok.inj _ _ _ e hc ▸ hi))
    · by_cases hcc : c' = c
      · subst hcc; exact ⟨_, hc'⟩
      · obtain ⟨w2, z2⟩ := I.cell y c' e
        exact ⟨w2, z2.sameBut hs hcc⟩
    · obtain ⟨e, n, ne, nf, d⟩ := I.pin p hp
      refine ⟨(hs.2 p.1 ?_).trans e, n, ne, nf, d⟩
      intro q
      rw [q, hoc] at e
      have q' : oc = p.2 := Option.some.inj e
      exact d w' (by rw [← q']; exact hocd)
theorem store_ok {M : Model} {A : Around} {E : Value → Shared → Prop} {i : Nat} {x : Str} {v : V} {u : Value} {Q : Unit → Shared → Prop} (I : Inv X pins σ H s) (hN : X.N.Nodup) (hi : X.N[i]? = some x) (hx : Loc X.env.scope x) (r : RelV v u)
    (h : ∀ s', Inv X pins (σ.set i (some v)) H s' → Q () s') (hf : X.fn x = true ∨ X.env.scope.names.lookup x = some .local := by first | exact .inl rfl | exact .inr rfl | assumption) : wpAny M A (storeName X.env x u) Q E s :=
  store_ok2 I hN hi hx r (fun s' I' _ => h s' I') hf
theorem Inv.call' {s' : Shared} {ch : List Addr} (I : Inv X pins σ H s) (ho : s'.os = s.os) (u : Un (frs X.stack) ch H H' s.heap s'.heap) (hok : HOk X.prog X.w H' s'.heap) (hg : AllBare s'.gens)
    (hch : ∀ b ∈ ch, (b ∈ X.ex ∨ X.s₀.heap.objs.size ≤ b) ∧ b ≠ X.env.locals ∧ (∀ x c, X.env.cells.lookup x = some c → c ≠ b) ∧ ∀ p ∈ X.pn ++ pins, p.1 ≠ b) : Inv X pins σ H' s' := by
  obtain ⟨h', g', d', t', o'⟩ := s'
  have e : o' = s.os := ho
  subst e
  exact I.call (g' := g') (t' := t') (d' := d') u hok hg hch
end

noncomputable abbrev XK := Value → Option Addr → Hp → Prop
noncomputable abbrev St := List (Option V)
noncomputable abbrev VK := V → Hp → Prop
noncomputable abbrev TE := St → Hp → VK → Prop
noncomputable abbrev TT := St → Hp → (Bool → Hp → Prop) → Prop
noncomputable abbrev TA := St → Hp → (List V → Hp → Prop) → Prop
structure Ends where
  nx : St → Hp → Prop
  rt : VK
  bk : St → Hp → Prop := fun _ _ => False
  ct : St → Hp → Prop := fun _ _ => False
noncomputable abbrev TS := Ends → St → Hp → Prop

noncomputable def EP (X : Cx) (pins : List (Addr × Obj)) (σ : St) (Q : VK) (u : Value) (s' : Shared) : Prop := ∃ v H', Inv X pins σ H' s' ∧ RelV v u ∧ Q v H'
noncomputable def TP (X : Cx) (pins : List (Addr × Obj)) (σ : St) (Q : Bool → Hp → Prop) (b : Bool) (s' : Shared) : Prop := ∃ H', Inv X pins σ H' s' ∧ Q b H'
noncomputable def AP (X : Cx) (pins : List (Addr × Obj)) (σ : St) (Q : List V → Hp → Prop) (us : List Value) (s' : Shared) : Prop := ∃ vs H', Inv X pins σ H' s' ∧ Vals vs us ∧ Q vs H'
noncomputable def SP (X : Cx) (pins : List (Addr × Obj)) (D : Ends) (f : Flow) (s' : Shared) : Prop :=
  match f with
  | .next => ∃ σ' H', Inv X pins σ' H' s' ∧ D.nx σ' H'
  | .brk => ∃ σ' H', Inv X pins σ' H' s' ∧ D.bk σ' H'
  | .cont => ∃ σ' H', Inv X pins σ' H' s' ∧ D.ct σ' H'
  | .ret u => ∃ v σ' H', Inv X pins σ' H' s' ∧ RelV v u ∧ D.rt v H'

noncomputable def PE (X : Cx) (e : Expr) (t : TE) : Prop :=
  ∀ (pins : List (Addr × Obj)) (s : Shared) (σ : St) (H : Hp) (Q : VK), Inv X pins σ H s → t σ H Q → wpAny (model X.prog X.w) X.A (eval e X.env) (EP X pins σ Q) X.xe s
noncomputable def PT (X : Cx) (e : Expr) (t : TT) : Prop :=
  ∀ (pins : List (Addr × Obj)) (s : Shared) (σ : St) (H : Hp) (Q : Bool → Hp → Prop), Inv X pins σ H s → t σ H Q → wpAny (model X.prog X.w) X.A (isTrue e X.env (eval e X.env)) (TP X pins σ Q) X.xe s
noncomputable def PW (X : Cx) (e : Expr) (t : TT) : Prop :=
  ∀ (whole : Sem Value) (pins : List (Addr × Obj)) (s : Shared) (σ : St) (H : Hp) (Q : Bool → Hp → Prop), Inv X pins σ H s → t σ H Q → wpAny (model X.prog X.w) X.A (isTrue e X.env whole) (TP X pins σ Q) X.xe s
theorem PW.pt {X : Cx} {e : Expr} {t : TT} (h : PW X e t) : PT X e t := h _
noncomputable def PA (X : Cx) (es : List Expr) (t : TA) : Prop :=
  ∀ (pos : Pos) (pins : List (Addr × Obj)) (s : Shared) (σ : St) (H : Hp) (Q : List V → Hp → Prop), Inv X pins σ H s → t σ H Q → wpAny (model X.prog X.w) X.A (spliced (backTo pos (starEach es X.env))) (AP X pins σ Q) X.xe s
noncomputable def PS (X : Cx) (st : Stmt) (t : TS) : Prop :=
  ∀ (pins : List (Addr × Obj)) (s : Shared) (σ : St) (H : Hp) (D : Ends), Inv X pins σ H s → t D σ H → wpAny (model X.prog X.w) X.A (exec st X.env) (SP X pins D) X.xe s
noncomputable def PSs (X : Cx) (st : List Stmt) (t : TS) : Prop :=
  ∀ (pins : List (Addr × Obj)) (s : Shared) (σ : St) (H : Hp) (D : Ends), Inv X pins σ H s → t D σ H → wpAny (model X.prog X.w) X.A (execs st X.env) (SP X pins D) X.xe s
theorem thn {α : Type} {t : Sem α} {Q Q' : α → Shared → Prop} {M : Model} {A : Around} {E : Value → Shared → Prop} {s : Shared} (h : wpAny M A t Q E s) (hQ : ∀ a s, Q a s → Q' a s) : wpAny M A t Q' E s := wpAny_mono h hQ fun _ _ x => x
end L2

namespace L2
open PySem PySem.Spec PyProof.Rows
section
variable {X : Cx}

noncomputable def tVar (i : Nat) : TE := fun σ H Q => ∃ v, σ[i]? = some (some v) ∧ Q v H
noncomputable def tC (v : V) : TE := fun _ H Q => Q v H
theorem pe_var {i : Nat} {x : Str} {pos : Pos} (hN : X.N[i]? = some x) (hv : Vis X.env.scope x) (hd : (x == ("__debug__" : Str)) = false := by decide) (hcd : (x == ("__classdict__" : Str)) = false := by decide) : PE X (.Name x pos) (tVar i) := by
  intro pins s σ H Q I h
  obtain ⟨v, e, h⟩ := h
  obtain ⟨m, hn, hl⟩ := I.loc
  obtain ⟨u, r, l⟩ := hl i x v hN e hv
  have fin : EP X pins σ Q u s := ⟨v, H, I, r, h⟩
  rcases l with ⟨hk, hm⟩ | ⟨hk, c, hc, hcell⟩
  · exact wpAny_Name (wpAny_loadName_local I.ok.kind hk hn hm fin) hd
  · rcases hk with hk | hk
    · exact wpAny_Name (wpAny_loadName_cell I.ok.kind hk hc hcell fin) hd
    · exact wpAny_Name (wpAny_loadName_free I.ok.kind hk hc hcell fin hcd) hd
theorem pe_int {i j pos} : PE X (.Constant (.int i) j pos) (tC (.int i)) := fun _ _ _ H _ I h => wpAny_Constant_int ⟨.int i, H, I.tok _, ⟨_, rfl⟩, h⟩
theorem pe_bl {b j pos} : PE X (.Constant (.bool b) j pos) (tC (.bl b)) := fun _ _ _ H _ I h => Constant_bool ⟨.bl b, H, I, rfl, h⟩
theorem pe_str {x j pos} : PE X (.Constant (.str x) j pos) (tC (.str x)) := fun _ _ _ H _ I h => Calls.Constant_str ⟨.str x, H, I.tok _, ⟨_, rfl⟩, h⟩

noncomputable def Gl (X : Cx) (x : Str) : Prop := X.env.kindOf x = some .globalImplicit
theorem ld_glob {E : Value → Shared → Prop} {pins : List (Addr × Obj)} {s : Shared} {σ : St} {H : Hp} {x : Str} {u : Value} {pos : Pos} {Q : Value → Shared → Prop} (I : Inv X pins σ H s) (hg : Gl X x) (hm : X.mg x = some u) (h : Q u s)
    (hd : (x == ("__debug__" : Str)) = false := by decide) : wpAny (model X.prog X.w) X.A (eval (.Name x pos) X.env) Q E s :=
  Calls.Name_function_global I.ok.kind hg (Calls.loadGlobal_global (by rw [I.ok.glob]; exact I.mod.glob.keeps I.bk) hm h) hd
theorem ld_blt {E : Value → Shared → Prop} {pins : List (Addr × Obj)} {s : Shared} {σ : St} {H : Hp} {x : Str} {u : Value} {pos : Pos} {Q : Value → Shared → Prop} (I : Inv X pins σ H s) (hg : Gl X x) (hm : X.mg x = none) (hv : bootBuiltins x = some u) (h : Q u s)
    (hn : x ≠ "__name__" := by decide) (hd : (x == ("__debug__" : Str)) = false := by decide) : wpAny (model X.prog X.w) X.A (eval (.Name x pos) X.env) Q E s := by
  obtain ⟨mb, h1, h2⟩ := I.mod.blt
  exact Calls.Name_function_global I.ok.kind hg (Calls.loadGlobal_builtin (by rw [I.ok.glob]; exact I.mod.glob.keeps I.bk) hm (by rw [I.ok.blt]; exact h1.keeps I.bk) ((h2 x hn).trans hv) h) hd
variable {a b : Expr} {ta tb : TE} {pos : Pos}
noncomputable def tB (t : TE) : TT := fun σ H Q => t σ H fun x H1 => ∃ c, x = .bl c ∧ Q c H1
theorem pt_val {e : Expr} {t : TE} (h : PE X e t) (he : ∀ whole, isTrue e X.env whole = (do let v ← whole; standAt e.pos; holding [v] (truthy v)) := by intro _; rfl) : PT X e (tB t) := by
  intro pins s σ H Q I hw
  refine isTrue_plain (thn (h pins s σ H _ I hw) fun v s1 ⟨x, H1, I1, r1, q1⟩ => ?_) (he _)
  obtain ⟨d, rfl, q⟩ := q1
  cases r1
  exact wpAny_truthy_bool ⟨H1, I1, q⟩

variable {tA tB' : TT} {rest : List Expr}
noncomputable def tAnd (t u : TT) : TT := fun σ H Q => t σ H fun c H1 => if c = true then u σ H1 Q else Q false H1
noncomputable def tOr (t u : TT) : TT := fun σ H Q => t σ H fun c H1 => if c = true then Q true H1 else u σ H1 Q
noncomputable def tNot (t : TT) : TT := fun σ H Q => t σ H fun c H1 => Q (!c) H1
theorem pw_and1 (ha : PT X a tA) : PW X (.BoolOp .And [a] pos) tA := by
  intro wh pins s σ H Q I h
  refine isTrue_and (thn (ha pins s σ H Q I h) fun c s1 e => ?_)
  cases c with
  | true => exact isTrue_and_nil e
  | false => exact e
theorem pw_or1 (ha : PT X a tA) : PW X (.BoolOp .Or [a] pos) tA := by
  intro wh pins s σ H Q I h
  refine isTrue_or (thn (ha pins s σ H Q I h) fun c s1 e => ?_)
  cases c with
  | false => exact isTrue_or_nil e
  | true => exact e
theorem pw_and (ha : PT X a tA) (hb : PW X (.BoolOp .And (b :: rest) pos) tB') : PW X (.BoolOp .And (a :: b :: rest) pos) (tAnd tA tB') := by
  intro wh pins s σ H Q I h
  refine isTrue_and (thn (ha pins s σ H _ I h) fun c s1 ⟨H1, I1, q1⟩ => ?_)
  cases c with
  | true => exact hb wh pins s1 σ H1 Q I1 q1
  | false => exact ⟨H1, I1, q1⟩
theorem pw_or (ha : PT X a tA) (hb : PW X (.BoolOp .Or (b :: rest) pos) tB') : PW X (.BoolOp .Or (a :: b :: rest) pos) (tOr tA tB') := by
  intro wh pins s σ H Q I h
  refine isTrue_or (thn (ha pins s σ H _ I h) fun c s1 ⟨H1, I1, q1⟩ => ?_)
  cases c with
  | true => exact ⟨H1, I1, q1⟩
  | false => exact hb wh pins s1 σ H1 Q I1 q1
theorem pt_not (ha : PT X a tA) : PT X (.UnaryOp .Not a pos) (tNot tA) := by
  intro pins s σ H Q I h
  exact isTrue_not (ha pins s σ H (fun c H1 => Q (!c) H1) I h)
noncomputable def tAndV (ta tb : TE) : TE := fun σ H Q => ta σ H fun x H1 => ∃ c, x = .bl c ∧ if c = true then tb σ H1 Q else Q (.bl false) H1
noncomputable def tOrV (ta tb : TE) : TE := fun σ H Q => ta σ H fun x H1 => ∃ c, x = .bl c ∧ if c = true then Q (.bl true) H1 else tb σ H1 Q
noncomputable def tNotV (ta : TE) : TE := fun σ H Q => ta σ H fun x H1 => ∃ c, x = .bl c ∧ Q (.bl (!c)) H1
theorem pe_one {op} {t : TE} (h : PE X a t) : PE X (.BoolOp op [a] pos) t := fun pins s σ H Q I hw => BoolOp_one (h pins s σ H Q I hw)
theorem pe_and (ha : PE X a ta) (hb : PE X (.BoolOp .And (b :: rest) pos) tb) : PE X (.BoolOp .And (a :: b :: rest) pos) (tAndV ta tb) := by
  intro pins s σ H Q I h
  refine BoolOp_and (thn (ha pins s σ H _ I h) fun v s1 ⟨x, H1, I1, r1, q1⟩ => ?_)
  obtain ⟨c, rfl, q1⟩ := q1
  cases r1
  refine wpAny_truthy_bool ?_
  cases c with
  | true => exact hb pins s1 σ H1 Q I1 q1
  | false => exact ⟨.bl false, H1, I1, rfl, q1⟩
theorem pe_or (ha : PE X a ta) (hb : PE X (.BoolOp .Or (b :: rest) pos) tb) : PE X (.BoolOp .Or (a :: b :: rest) pos) (tOrV ta tb) := by
  intro pins s σ H Q I h
  refine BoolOp_or (thn (ha pins s σ H _ I h) fun v s1 ⟨x, H1, I1, r1, q1⟩ => ?_)
  obtain ⟨c, rfl, q1⟩ := q1
  cases r1
  refine wpAny_truthy_bool ?_
  cases c with
  | false => exact hb pins s1 σ H1 Q I1 q1
  | true => exact ⟨.bl true, H1, I1, rfl, q1⟩
theorem pe_not (ha : PE X a ta) : PE X (.UnaryOp .Not a pos) (tNotV ta) := by
  intro pins s σ H Q I h
  refine UnaryOp_ (thn (ha pins s σ H _ I h) fun v s1 ⟨x, H1, I1, r1, q1⟩ => ?_)
  obtain ⟨c, rfl, q1⟩ := q1
  cases r1
  exact not_of (wpAny_truthy_bool ⟨.bl (!c), H1, I1, rfl, q1⟩)
noncomputable def tIf (t : TT) (ta tb : TE) : TE := fun σ H Q => t σ H fun c H1 => if c = true then ta σ H1 Q else tb σ H1 Q
end
end L2

namespace L2
open PySem PySem.Spec PyProof.Rows

noncomputable def SqL (K : PySem.W.Frag) (H : Hp) (a : Addr) (xs : List V) : Prop :=
  Rd H a (.lst xs) ∨
    ∃ (o : Obj) (its : Array Value) (n : Nat), K.lookup a = some o ∧ o.cls = .type "list" ∧ o.dict = none ∧ o.data = .seq its n ∧ its.size ≤ sizeLine ∧ Vals xs its.toList
noncomputable def SqT (K : PySem.W.Frag) (H : Hp) (a : Addr) (xs : List V) : Prop :=
  Rd H a (.tup xs) ∨
    ∃ (o : Obj) (its : Array Value) (n : Nat), K.lookup a = some o ∧ o.cls = .type "tuple" ∧ o.data = .seq its n ∧ its.size ≤ sizeLine ∧ Vals xs its.toList
noncomputable def absV : Value → Option V
  | .none => some .non
  | .bool b => some (.bl b)
  | .int i _ => some (.int i)
  | .str x _ => some (.str x)
  | .bytes b _ => some (.byt b)
  | .float b _ => some (.flt b)
  | .ref a => some (.ref a)
  | .type n => some (.ty n)
  | _ => none
theorem RelV.abs {x : V} {u : Value} (r : RelV x u) : absV u = some x := by
  cases x with
  | non => cases r; rfl
  | bl _ => cases r; rfl
  | int _ => obtain ⟨t, rfl⟩ := r; rfl
  | str _ => obtain ⟨t, rfl⟩ := r; rfl
  | byt _ => obtain ⟨t, rfl⟩ := r; rfl
  | flt _ => obtain ⟨t, rfl⟩ := r; rfl
  | ref _ => cases r; rfl
  | ty _ => cases r; rfl
theorem RelV.inj {x y : V} {u : Value} (r : RelV x u) (q : RelV y u) : x = y := Option.some.inj (r.abs.symm.trans q.abs)
theorem Vals.inj : ∀ {xs ys : List V} {us : List Value}, Vals xs us → Vals ys us → xs = ys
  | _, _, _, .nil, .nil => rfl
  | _, _, _, .cons r t, .cons r' t' => by rw [r.inj r', Vals.inj t t']
section
variable {X : Cx} {pins : List (Addr × Obj)} {σ : St} {H : Hp} {s : Shared} {a : Addr} {xs ys : List V}
theorem SqL.of {K : PySem.W.Frag} (h : H a = some (.lst xs)) : SqL K H a xs := .inl (.inl h)
theorem SqT.of {K : PySem.W.Frag} (h : H a = some (.tup xs)) : SqT K H a xs := .inl (.inl h)
theorem Inv.list (I : Inv X pins σ H s) (h : SqL X.K H a xs) : ∃ its : List Value, Vals xs its ∧ PlainL s.heap a its.toArray ∧ xs.length ≤ sizeLine := by
  rcases h with h | ⟨o, its, n, hk, hc, hd, hs, hz, r⟩
  · obtain ⟨z, its, n, r, e⟩ := h.ok I.hok
    exact ⟨its, r, ⟨_, n, e, rfl, rfl, rfl⟩, z⟩
  · refine ⟨its.toList, r, ⟨o, n, I.kIn a o hk, hc, hd, by simpa using hs⟩, ?_⟩
    have e := r.length
    simp only [Array.length_toList] at e
    omega
theorem Inv.tuple (I : Inv X pins σ H s) (h : SqT X.K H a xs) : ∃ its : List Value, Vals xs its ∧ IsTup s.heap a its.toArray ∧ xs.length ≤ sizeLine := by
  rcases h with h | ⟨o, its, n, hk, hc, hs, hz, r⟩
  · obtain ⟨z, its, r, p⟩ := h.ok I.hok
    exact ⟨its, r, p, z⟩
  · refine ⟨its.toList, r, ⟨o, I.kIn a o hk, hc, n, by simpa using hs⟩, ?_⟩
    have e := r.length
    simp only [Array.length_toList] at e
    omega
theorem Inv.list_inj (I : Inv X pins σ H s) (h : SqL X.K H a xs) (h' : SqL X.K H a ys) : xs = ys := by
  obtain ⟨its, r, ⟨o, n, e, _, _, d⟩, _⟩ := I.list h
  obtain ⟨its', r', ⟨o', n', e', _, _, d'⟩, _⟩ := I.list h'
  rw [e] at e'; cases e'
  rw [d] at d'
  injection d' with d1 _
  have : its = its' := by simpa using congrArg Array.toList d1
  subst this
  exact r.inj r'
theorem Inv.tuple_inj (I : Inv X pins σ H s) (h : SqT X.K H a xs) (h' : SqT X.K H a ys) : xs = ys := by
  obtain ⟨its, r, ⟨o, e, _, n, d⟩, _⟩ := I.tuple h
  obtain ⟨its', r', ⟨o', e', _, n', d'⟩, _⟩ := I.tuple h'
  rw [e] at e'; cases e'
  rw [d] at d'
  injection d' with d1 _
  have : its = its' := by simpa using congrArg Array.toList d1
  subst this
  exact r.inj r'
end

noncomputable abbrev Cx.wish (X : Cx) (E : Value → Shared → Prop) : Cx := { X with xe := E }
noncomputable abbrev Cx.nox (X : Cx) : Cx := X.wish fun _ _ => False
theorem Cx.Ok.wish {X : Cx} (ok : X.Ok) (E : Value → Shared → Prop) : (X.wish E).Ok :=
  ⟨ok.mod, ok.kind, ok.glob, ok.blt, ok.above, ok.inj, ok.has, ok.cab, ok.hd, ok.frames, ok.stk, ok.exf, ok.bs, ok.bsz, ok.noex, ok.exfs, ok.funs, ok.frf⟩
theorem Cx.Ok.unwish {X : Cx} {E : Value → Shared → Prop} (ok : (X.wish E).Ok) : X.Ok :=
  ⟨ok.mod, ok.kind, ok.glob, ok.blt, ok.above, ok.inj, ok.has, ok.cab, ok.hd, ok.frames, ok.stk, ok.exf, ok.bs, ok.bsz, ok.noex, ok.exfs, ok.funs, ok.frf⟩
section
variable {X : Cx} {pins : List (Addr × Obj)} {σ : St} {H : Hp} {s : Shared} {E : Value → Shared → Prop}
theorem Inv.wish (I : Inv X pins σ H s) (E : Value → Shared → Prop) : Inv (X.wish E) pins σ H s := ⟨I.ok.wish E, I.os, I.bare, I.base, I.loc, I.cell, I.free, I.freeC, I.pin, I.hok, I.len⟩
theorem Inv.unwish (I : Inv (X.wish E) pins σ H s) : Inv X pins σ H s := ⟨I.ok.unwish, I.os, I.bare, I.base, I.loc, I.cell, I.free, I.freeC, I.pin, I.hok, I.len⟩
theorem SP.unwish {D : Ends} {f : Flow} {s' : Shared} (h : SP (X.wish E) pins D f s') : SP X pins D f s' := by
  cases f with
  | next => obtain ⟨σ', H', I, q⟩ := h; exact ⟨σ', H', I.unwish, q⟩
  | brk => obtain ⟨σ', H', I, q⟩ := h; exact ⟨σ', H', I.unwish, q⟩
  | cont => obtain ⟨σ', H', I, q⟩ := h; exact ⟨σ', H', I.unwish, q⟩
  | ret u => obtain ⟨v, σ', H', I, r, q⟩ := h; exact ⟨v, σ', H', I.unwish, r, q⟩
theorem PSs.nox {st : List Stmt} {t : TS} (h : PSs X.nox st t) : PSs X st t := fun pins s σ H D I hw =>
  wpAny_mono (h pins s σ H D (I.wish _) hw) (fun _ _ q => q.unwish) fun _ _ z => False.elim z
end

section
variable {X : Cx} {st : Stmt} {rest : List Stmt} {t u : TS} {e : Expr} {te : TE} {pos : Pos}
noncomputable def tNext : TS := fun D σ H => D.nx σ H
noncomputable def tSeq (t u : TS) : TS := fun D σ H => t { D with nx := u D } σ H
theorem pss_nil : PSs X [] tNext := fun _ _ σ H _ I h => wpAny_execs_nil ⟨σ, H, I, h⟩
theorem pss_cons (h1 : PS X st t) (h2 : PSs X rest u) : PSs X (st :: rest) (tSeq t u) := by
  intro pins s σ H D I h
  refine wpAny_execs_cons (thn (h1 pins s σ H { D with nx := u D } I h) fun f s1 q => ?_)
  cases f with
  | next =>
    obtain ⟨σ', H', I', q⟩ := q
    exact h2 pins s1 σ' H' D I' q
  | ret v => exact q
  | brk => exact q
  | cont => exact q
theorem pss_one (h1 : PS X st t) : PSs X [st] t := by
  intro pins s σ H D I h
  refine wpAny_execs_cons (thn (h1 pins s σ H D I h) fun f s1 q => ?_)
  cases f with
  | next => exact wpAny_execs_nil q
  | ret v => exact q
  | brk => exact q
  | cont => exact q
noncomputable def tBreak : TS := fun D σ H => D.bk σ H
noncomputable def tCont : TS := fun D σ H => D.ct σ H
theorem Inv.quiet {pins : List (Addr × Obj)} {σ : St} {H : Hp} {s : Shared} (I : Inv X pins σ H s) : interactive X.env = false := by simp [interactive, I.ok.kind]
noncomputable def tDrop (te : TE) : TS := fun D σ H => te σ H fun _ H1 => D.nx σ H1
theorem ps_expr (he : PE X e te) (hs : swapsWith e none pos.line X.env = pure false := by rfl) : PS X (.Expr e pos) (tDrop te) := by
  intro pins s σ H D I h
  exact wpAny_Expr_any (thn (he pins s σ H _ I h) fun v s1 ⟨x, H1, I1, r1, q1⟩ => ⟨σ, H1, I1, q1⟩) I.quiet hs
noncomputable def tRet (te : TE) : TS := fun D σ H => te σ H D.rt
theorem ps_ret (he : PE X e te) : PS X (.Return (some e) pos) (tRet te) := by
  intro pins s σ H D I h
  exact wpAny_Return_some (thn (he pins s σ H _ I h) fun v s1 ⟨x, H1, I1, r1, q1⟩ => ⟨x, σ, H1, I1, r1, q1⟩)
noncomputable def tRetN : TS := fun D _ H => D.rt .non H
theorem ps_retN : PS X (.Return none pos) tRetN := fun _ _ σ H _ I h => wpAny_Return_none ⟨.non, σ, H, I, rfl, h⟩
noncomputable def tIfS (c : TT) (t u : TS) : TS := fun D σ H => c σ H fun b H1 => if b = true then t D σ H1 else u D σ H1
theorem ps_if {c : Expr} {a b : List Stmt} {tc : TT} (hc : PT X c tc) (ha : PSs X a t) (hb : PSs X b u) : PS X (.If c a b pos) (tIfS tc t u) := by
  intro pins s σ H D I h
  refine wpAny_If (thn (hc pins s σ H _ I h) fun d s1 ⟨H1, I1, q1⟩ => ?_)
  cases d with
  | true => exact ha pins s1 σ H1 D I1 q1
  | false => exact hb pins s1 σ H1 D I1 q1
end

noncomputable abbrev TG := V → St → Hp → (St → Hp → Prop) → Prop
noncomputable abbrev TGs := List V → St → Hp → (St → Hp → Prop) → Prop
noncomputable def PG (X : Cx) (target : Expr) (t : TG) : Prop :=
  ∀ (pins : List (Addr × Obj)) (s : Shared) (σ : St) (H : Hp) (v : V) (u : Value) (Q : St → Hp → Prop), Inv X pins σ H s → RelV v u → t v σ H Q →
    wpAny (model X.prog X.w) X.A (assign target X.env u) (fun _ s' => ∃ σ' H', Inv X pins σ' H' s' ∧ Q σ' H') X.xe s
noncomputable def PGs (X : Cx) (ts : List Expr) (t : TGs) : Prop :=
  ∀ (pins : List (Addr × Obj)) (s : Shared) (σ : St) (H : Hp) (vs : List V) (us : List Value) (Q : St → Hp → Prop), Inv X pins σ H s → Vals vs us → t vs σ H Q →
    wpAny (model X.prog X.w) X.A (assignInOrder ((assignEach ts X.env).map (·.2)) us) (fun _ s' => ∃ σ' H', Inv X pins σ' H' s' ∧ Q σ' H') X.xe s
noncomputable abbrev TSet := V → V → V → Hp → (Hp → Prop) → Prop
noncomputable def PSet (X : Cx) (t : TSet) : Prop :=
  ∀ (pins : List (Addr × Obj)) (s : Shared) (σ : St) (H : Hp) (o i v : V) (ov iv u : Value) (Q : Hp → Prop), Inv X pins σ H s → RelV o ov → RelV i iv → RelV v u → t o i v H Q →
    wpAny (model X.prog X.w) X.A (setItem ov iv u) (fun _ s' => ∃ H', Inv X pins σ H' s' ∧ Q H') X.xe s
section
variable {X : Cx} {pos : Pos}
noncomputable def gName (i : Nat) : TG := fun v σ H Q => Q (σ.set i (some v)) H
theorem pg_name {i : Nat} {x : Str} (hN : X.N.Nodup) (hi : X.N[i]? = some x) (hx : Loc X.env.scope x) (hf : X.fn x = true ∨ X.env.scope.names.lookup x = some .local := by first | exact .inl rfl | exact .inr rfl | assumption) : PG X (.Name x pos) (gName i) := by
  intro pins s σ H v u Q I r h
  exact wpAny_assign_Name (store_ok I hN hi hx r (fun s' I' => ⟨_, H, I', h⟩) hf)
noncomputable def gNil : TGs := fun vs σ H Q => vs = [] ∧ Q σ H
noncomputable def gCons (t : TG) (u : TGs) : TGs := fun vs σ H Q => ∃ v r, vs = v :: r ∧ t v σ H fun σ' H' => u r σ' H' Q
theorem pgs_nil : PGs X [] gNil := by
  intro pins s σ H vs us Q I r h
  obtain ⟨e, h⟩ := h
  subst e
  cases r
  exact assignInOrder_nil ⟨σ, H, I, h⟩
theorem pgs_cons {e : Expr} {es : List Expr} {t : TG} {u : TGs} (h1 : PG X e t) (h2 : PGs X es u)
    (hs : (assignEach (e :: es) X.env).map (·.2) = assign e X.env :: (assignEach es X.env).map (·.2) := by rfl) : PGs X (e :: es) (gCons t u) := by
  intro pins s σ H vs us Q I r h
  obtain ⟨v, vr, e1, h⟩ := h
  subst e1
  cases r with
  | cons r rr =>
    rw [hs]
    refine assignInOrder_cons (thn (h1 pins s σ H _ _ _ I r h) fun _ s1 ⟨σ1, H1, I1, q1⟩ => ?_)
    exact h2 pins s1 σ1 H1 _ _ Q I1 rr q1
noncomputable def gTup (K : PySem.W.Frag) (n : Nat) (t : TGs) : TG := fun v σ H Q => ∃ a xs, v = .ref a ∧ SqT K H a xs ∧ xs.length = n ∧ t xs σ H Q
theorem pg_tup {es : List Expr} {k : Nat} {t : TGs} {n : Nat} (hc : X.calm = true) (h : PGs X es t)
    (hn : (assignEach es X.env).length = n := by rfl) (hst : (assignEach es X.env).findIdx? (·.1) = none := by rfl) : PG X (.Tuple es k pos) (gTup X.K n t) := by
  intro pins s σ H v u Q I r hw
  obtain ⟨a, xs, e1, hq, hl, hw⟩ := hw
  subst e1
  cases r
  obtain ⟨its, rv, ht, hz⟩ := I.tuple hq
  refine assign_Tuple_tuple (I.ok.hd hc) ht (by simp [hn, ← hl, rv.length]) hst fun h' hx => ?_
  have I1 : Inv X pins σ H { s with heap := h' } := I.kept (t' := s.toks) fun b o e => hx b o (Nat.ne_of_lt (Heap.lt_size e)) e
  exact h pins _ σ H xs _ Q I1 (by simpa using rv) hw
noncomputable def gSub (to ti : TE) (t : TSet) : TG := fun v σ H Q => to σ H fun o H1 => ti σ H1 fun i H2 => t o i v H2 fun H3 => Q σ H3
theorem pg_sub {o i : Expr} {to ti : TE} {t : TSet} (ho : PE X o to) (hi : PE X i ti) (hs : PSet X t)
    (ha : ∀ v, assign (.Subscript o i pos) X.env v = (do
      let ov ← holding [v] (eval o X.env)
      let iv ← holding [v, ov] (eval i X.env)
      standAt pos
      holding [v, ov, iv] (setItem ov iv v)
      release [v, ov, iv] []) := by intro _; rfl) : PG X (.Subscript o i pos) (gSub to ti t) := by
  intro pins s σ H v u Q I r h
  rw [ha]
  refine wpAny_bind (wpAny_holding (thn (ho pins s σ H _ I h) fun ov s1 ⟨x, H1, I1, r1, q1⟩ => ?_))
  refine wpAny_bind (wpAny_holding (thn (hi pins s1 σ H1 _ I1 q1) fun iv s2 ⟨y, H2, I2, r2, q2⟩ => ?_))
  refine wpAny_bind (wpAny_standAt (wpAny_bind (wpAny_holding (thn (hs pins s2 σ H2 x y v ov iv u _ I2 r1 r2 r q2) fun _ s3 ⟨H3, I3, q3⟩ => ?_))))
  exact wpAny_release ⟨σ, H3, I3, q3⟩
noncomputable def tAsg (te : TE) (g : TG) : TS := fun D σ H => te σ H fun x H1 => g x σ H1 D.nx
theorem ps_asg {tg e : Expr} {te : TE} {g : TG} (he : PE X e te) (hg : PG X tg g) (hs : swapsWithSole [tg] e pos.line X.env = pure false := by rfl) (hw : swappedStores [tg] e X.env = pure none := by rfl)
    (h1 : (assignEach [tg] X.env).map (·.2) = [assign tg X.env] := by rfl) : PS X (.Assign [tg] e pos) (tAsg te g) := by
  intro pins s σ H D I h
  refine wpAny_Assign_stores (thn (he pins s σ H _ I h) fun v s1 ⟨x, H1, I1, r1, q1⟩ => ?_) hs hw
  rw [h1]
  exact thn (hg pins s1 σ H1 x v _ I1 r1 q1) fun _ s2 q => q
theorem ps_set {i : Nat} {x : Str} {e : Expr} {te : TE} {pos' : Pos} (hN : X.N.Nodup) (hi : X.N[i]? = some x) (hx : Loc X.env.scope x) (he : PE X e te) (hs : swapsWith e (some (.Name x pos')) pos.line X.env = pure false := by rfl) (hf : X.fn x = true ∨ X.env.scope.names.lookup x = some .local := by first | exact .inl rfl | exact .inr rfl | assumption) :
    PS X (.Assign [.Name x pos'] e pos) (tAsg te (gName i)) := by
  intro pins s σ H D I h
  refine wpAny_Assign_Name (thn (he pins s σ H _ I h) fun v s1 ⟨y, H1, I1, r1, q1⟩ => ?_) hs
  exact store_ok I1 hN hi hx r1 (fun s2 I2 => ⟨_, H1, I2, q1⟩) hf
end

section
variable {X : Cx} {pos : Pos}
noncomputable def tWhile (c : TT) (tb : TS) : TS := fun D σ H => ∃ W : Nat → St → Hp → Prop, (∃ m, W m σ H) ∧ ∀ m σ H, W m σ H →
  c σ H fun b H1 => if b = true then ∃ N : St → Hp → Prop, (∀ σ' H', N σ' H' → ∃ m', m' < m ∧ W m' σ' H') ∧ tb { D with nx := N, ct := N, bk := D.nx } σ H1 else D.nx σ H1
theorem ps_while {c : Expr} {body : List Stmt} {tc : TT} {tb : TS} (hp : PassesOwn (model X.prog X.w) X.A X.env X.xe) (hc : PT X c tc) (hb : PSs X body tb) : PS X (.While c body [] pos) (tWhile tc tb) := by
  intro pins s σ H D I h
  obtain ⟨W, ⟨m0, w0⟩, turn⟩ := h
  refine wpAny_While (codeAny_whileLoop (fun n s' => ∃ σ' H', Inv X pins σ' H' s' ∧ W n σ' H') ?_ m0 ⟨σ, H, I, w0⟩)
  rintro n s1 ⟨σ1, H1, I1, w1⟩
  refine wpAny_passesOwn hp (thn (hc pins s1 σ1 H1 _ I1 (turn n σ1 H1 w1)) fun b s2 ⟨H2, I2, q2⟩ => ?_)
  cases b with
  | true =>
    obtain ⟨N, hN, q2⟩ := q2
    rw [if_pos rfl]
    refine wpAny_passesOwn hp (thn (hb pins s2 σ1 H2 _ I2 q2) fun f s3 q3 => ?_)
    cases f with
    | next =>
      obtain ⟨σ3, H3, I3, n3⟩ := q3
      obtain ⟨m', hm, w3⟩ := hN σ3 H3 n3
      exact ⟨m', hm, σ3, H3, I3, w3⟩
    | cont =>
      obtain ⟨σ3, H3, I3, n3⟩ := q3
      obtain ⟨m', hm, w3⟩ := hN σ3 H3 n3
      exact ⟨m', hm, σ3, H3, I3, w3⟩
    | brk => exact q3
    | ret v => exact q3
  | false =>
    rw [if_neg Bool.false_ne_true]
    exact wpAny_execs_nil ⟨σ1, H2, I2, q2⟩
end

structure It where
  go : Nat → Hp → Prop
  yld : Nat → Hp → V → Hp → Prop
  stop : Nat → Hp → Prop
noncomputable def FpOk (X : Cx) (pins : List (Addr × Obj)) (H : Hp) (b : Addr) : Prop :=
  H b = none ∧ b ≠ X.env.locals ∧ b ∉ X.fs ∧ (b ∈ X.ex ∨ X.s₀.heap.objs.size ≤ b) ∧ (∀ x c, X.env.cells.lookup x = some c → c ≠ b) ∧ ∀ p ∈ X.pn ++ pins, p.1 ≠ b
theorem Inv.fpOk {X : Cx} {pins : List (Addr × Obj)} {σ : St} {H H' : Hp} {s : Shared} {b : Addr} (I : Inv X pins σ H s) (hb : s.heap.objs.size ≤ b) (hn : H' b = none) : FpOk X pins H' b := by
  refine ⟨hn, Nat.ne_of_gt (Nat.lt_of_lt_of_le I.lt hb), I.nofs hb, .inr (Nat.le_trans I.sz hb), fun x c e z => ?_, fun p hp z => ?_⟩
  · obtain ⟨v, q⟩ := I.cell x c e
    exact absurd (Nat.lt_of_lt_of_le q.lt (by rw [z]; exact hb)) (Nat.lt_irrefl _)
  · exact absurd (Nat.lt_of_lt_of_le (Heap.lt_size (I.pin p hp).1) (by rw [z]; exact hb)) (Nat.lt_irrefl _)
structure Turn (P : Program) (w : World) (K : PySem.W.Frag) (tg : Expr) (J : It) (fp : List Addr) (it : Addr) (tn : Nat → Heap → Prop) : Prop where
  mem : it ∈ fp
  obj : ∀ i h, tn i h → ∀ b ∈ fp, ∃ o, h.get? b = some o ∧ ∀ v, o.data ≠ .cell v
  keep : ∀ i h h', tn i h → (∀ b ∈ fp, ∀ o, h.get? b = some o → h'.get? b = some o) → tn i h'
  item : ∀ (X : Cx), X.prog = P → X.w = w → X.K = K → X.calm = true → ∀ (i : Nat) (pins : List (Addr × Obj)) (s : Shared) (σ : St) (H : Hp) (E : Value → Shared → Prop), Inv X pins σ H s → (∀ b ∈ fp, FpOk X pins H b) → tn i s.heap → J.go i H →
    wpAny (model P w) X.A (pyNext (.ref it)) (fun r s1 => ∃ u, r = some u ∧
      wpAny (model P w) X.A (letOwnedTupleGo tg (.ref it) u) (fun _ s2 => ∃ x H', Inv X pins σ H' s2 ∧ RelV x u ∧ J.yld i H x H' ∧ tn (i + 1) s2.heap ∧ ∀ b ∈ fp, H' b = none) E s1) E s
  done : ∀ (X : Cx), X.prog = P → X.w = w → X.K = K → X.calm = true → ∀ (i : Nat) (pins : List (Addr × Obj)) (s : Shared) (σ : St) (H : Hp) (E : Value → Shared → Prop), Inv X pins σ H s → (∀ b ∈ fp, FpOk X pins H b) → tn i s.heap → J.stop i H →
    wpAny (model P w) X.A (pyNext (.ref it)) (fun r s1 => r = none ∧ Inv X pins σ H s1) E s
  self : ∀ (A : Around) (i : Nat) (s : Shared) (Q : Value → Shared → Prop) (E : Value → Shared → Prop), tn i s.heap → Q (.ref it) s → wpAny (model P w) A (pyIter (.ref it)) Q E s
noncomputable abbrev TI := St → Hp → (It → Hp → Prop) → Prop
noncomputable def PIE (X : Cx) (pins : List (Addr × Obj)) (σ : St) (tg : Expr) (R : It → Hp → Prop) (itv : Value) (s2 : Shared) : Prop :=
  ∃ (it : Addr) (fp : List Addr) (tn : Nat → Heap → Prop) (J : It) (H' : Hp), itv = .ref it ∧ Inv X pins σ H' s2 ∧ Turn X.prog X.w X.K tg J fp it tn ∧ tn 0 s2.heap ∧ (∀ b ∈ fp, FpOk X pins H' b) ∧ R J H'
noncomputable def PI (X : Cx) (tg iter : Expr) (wi : TI) : Prop :=
  ∀ (pins : List (Addr × Obj)) (s : Shared) (σ : St) (H : Hp) (R : It → Hp → Prop), Inv X pins σ H s → wi σ H R →
    wpAny (model X.prog X.w) X.A (eval iter X.env) (fun v s1 => wpAny (model X.prog X.w) X.A (pyIter v) (PIE X pins σ tg R) X.xe s1) X.xe s

theorem go_of {M : Model} {A : Around} {E : Value → Shared → Prop} {s : Shared} {tg : Expr} {it : Addr} {u : Value} {o : Obj} {n : String} {vs : Array Value} {Q : Unit → Shared → Prop} (ho : s.heap.get? it = some o) (hc : o.cls = .type n) (hd : o.data = .fields vs)
    (hn : ["enumerate", "zip", "dict_itemiterator", "dict_reverseitemiterator", "odict_iterator", "itertools.zip_longest", "itertools.pairwise"].contains n = false) (hQ : Q () s) : wpAny M A (letOwnedTupleGo tg (.ref it) u) Q E s := by
  unfold letOwnedTupleGo
  cases tg <;> first
    | exact wpAny_pure hQ
    | (cases u <;> first
        | exact wpAny_pure hQ
        | (refine wpAny_bind (wpAny_load ho ?_)
           rw [hc, hd]
           show wpAny M A (if (["enumerate", "zip", "dict_itemiterator", "dict_reverseitemiterator", "odict_iterator", "itertools.zip_longest", "itertools.pairwise"].contains n && vs[0]? == some (rawInt _)) = true then _ else _) Q E s
           rw [if_neg (by intro h; rw [hn, Bool.false_and] at h; cases h)]
           exact wpAny_pure hQ))

noncomputable def Itl (K : PySem.W.Frag) (a : Addr) : It :=
  ⟨fun i H => ∃ xs x, SqL K H a xs ∧ xs[i]? = some x, fun i H x H' => H' = H ∧ ∀ xs, SqL K H a xs → xs[i]? = some x, fun i H => ∃ xs, SqL K H a xs ∧ xs.length ≤ i⟩
noncomputable def Itt (K : PySem.W.Frag) (a : Addr) : It :=
  ⟨fun i H => ∃ xs x, SqT K H a xs ∧ xs[i]? = some x, fun i H x H' => H' = H ∧ ∀ xs, SqT K H a xs → xs[i]? = some x, fun i H => ∃ xs, SqT K H a xs ∧ xs.length ≤ i⟩
noncomputable def Itr (lo : Int) (n : Nat) : It := ⟨fun i _ => i < n, fun i H x H' => H' = H ∧ x = .int (lo + i), fun i _ => n ≤ i⟩
theorem turn_list {P : Program} {w : World} {K : PySem.W.Frag} {tg : Expr} (a it : Addr) : Turn P w K tg (Itl K a) [it] it (fun i h => h.IsListIter it a i) where
  mem := by simp
  obj := fun i h st b hb => by
    have e : b = it := by simpa using hb
    subst e
    obtain ⟨o, e, c, d⟩ := st
    exact ⟨o, e, fun v z => by rw [d] at z; cases z⟩
  keep := fun i h h' st k => st.at fun o e => k it (by simp) o e
  item := by
    intro X hP hw hK hc i pins s σ H E I hf st hg
    subst hP hw hK
    obtain ⟨xs, x, hq, hx⟩ := hg
    obtain ⟨its, rv, p, hz⟩ := I.list hq
    obtain ⟨u, hu, ru⟩ := rv.get hx
    obtain ⟨f0, f1, f2, f3, f4, f5⟩ := hf it (by simp)
    refine wpAny_pyNext_list_item st p.isList (x := u) (by simpa using hu) fun h' st' sb => ?_
    have I1 : Inv X pins σ H { s with heap := h' } := I.turned (t' := s.toks) (fun b o hb e => (sb.2 b hb).trans e) f0 f1 f3 f4 f5
    obtain ⟨o, e, c, d⟩ := id st'
    exact ⟨u, rfl, go_of (s := { s with heap := h' }) e c d (by decide) ⟨x, H, I1, ru, ⟨rfl, fun ys hy => by rw [I.list_inj hy hq]; exact hx⟩, st', fun b hb => (hf b hb).1⟩⟩
  done := by
    intro X hP hw hK hc i pins s σ H E I hf st hg
    subst hP hw hK
    obtain ⟨xs, hq, hx⟩ := hg
    obtain ⟨its, rv, p, hz⟩ := I.list hq
    obtain ⟨f0, f1, f2, f3, f4, f5⟩ := hf it (by simp)
    have hl := rv.length
    exact wpAny_pyNext_list_end (I.ok.hd hc) st p.isList (by simp; omega) fun h' eb => ⟨rfl, I.turned (t' := s.toks) (fun b o hb e => eb b o hb e) f0 f1 f3 f4 f5⟩
  self := fun _ _ _ _ _ st h => wpAny_pyIter_listiter st h
theorem turn_tuple {P : Program} {w : World} {K : PySem.W.Frag} {tg : Expr} (a it : Addr) : Turn P w K tg (Itt K a) [it] it (fun i h => h.IsTupleIter it a i) where
  mem := by simp
  obj := fun i h st b hb => by
    have e : b = it := by simpa using hb
    subst e
    obtain ⟨o, e, c, d⟩ := st
    exact ⟨o, e, fun v z => by rw [d] at z; cases z⟩
  keep := fun i h h' st k => st.at fun o e => k it (by simp) o e
  item := by
    intro X hP hw hK hc i pins s σ H E I hf st hg
    subst hP hw hK
    obtain ⟨xs, x, hq, hx⟩ := hg
    obtain ⟨its, rv, p, hz⟩ := I.tuple hq
    obtain ⟨u, hu, ru⟩ := rv.get hx
    obtain ⟨f0, f1, f2, f3, f4, f5⟩ := hf it (by simp)
    refine wpAny_pyNext_tuple_item st (show s.heap.IsTuple a its.toArray from p) (x := u) (by simpa using hu) fun h' st' sb => ?_
    have I1 : Inv X pins σ H { s with heap := h' } := I.turned (t' := s.toks) (fun b o hb e => (sb.2 b hb).trans e) f0 f1 f3 f4 f5
    obtain ⟨o, e, c, d⟩ := id st'
    exact ⟨u, rfl, go_of (s := { s with heap := h' }) e c d (by decide) ⟨x, H, I1, ru, ⟨rfl, fun ys hy => by rw [I.tuple_inj hy hq]; exact hx⟩, st', fun b hb => (hf b hb).1⟩⟩
  done := by
    intro X hP hw hK hc i pins s σ H E I hf st hg
    subst hP hw hK
    obtain ⟨xs, hq, hx⟩ := hg
    obtain ⟨its, rv, p, hz⟩ := I.tuple hq
    obtain ⟨f0, f1, f2, f3, f4, f5⟩ := hf it (by simp)
    have hl := rv.length
    exact wpAny_pyNext_tuple_end (I.ok.hd hc) st (show s.heap.IsTuple a its.toArray from p) (by simp; omega) fun h' eb => ⟨rfl, I.turned (t' := s.toks) (fun b o hb e => eb b o hb e) f0 f1 f3 f4 f5⟩
  self := fun _ _ _ _ _ st h => wpAny_pyIter_tupleiter st h
theorem turn_range {P : Program} {w : World} {K : PySem.W.Frag} {tg : Expr} (it : Addr) (lo : Int) (n : Nat) : Turn P w K tg (Itr lo n) [it] it (fun i h => IsRangeIter h it (lo + (i : Nat) * 1) ((n : Int) - (i : Nat)) 1) where
  mem := by simp
  obj := fun i h st b hb => by
    have e : b = it := by simpa using hb
    subst e
    exact ⟨_, st, fun v z => by
      have z' : Data.fields _ = Data.cell v := z
      cases z'⟩
  keep := fun i h h' st k => k it (by simp) _ st
  item := by
    intro X hP hw hK hc i pins s σ H E I hf st hg
    subst hP hw hK
    obtain ⟨f0, f1, f2, f3, f4, f5⟩ := hf it (by simp)
    have W := Walks.range (prog := X.prog) (w := X.w) (I.ok.hd hc) it lo 1 n
    refine W.item i s _ _ hg st fun v h' tk hv st' kk => ?_
    obtain ⟨t, rfl⟩ := hv
    have I1 : Inv X pins σ H { s with heap := h', toks := tk } := I.turned (fun b o hb e => kk b o (by simpa using hb) e) f0 f1 f3 f4 f5
    refine ⟨_, rfl, go_of (s := { s with heap := h', toks := tk }) (n := "range_iterator") st' rfl rfl (by decide) ⟨.int (lo + i), H, I1, ⟨t, ?_⟩, ⟨rfl, rfl⟩, st', fun b hb => (hf b hb).1⟩⟩
    rw [Int.mul_one]
  done := by
    intro X hP hw hK hc i pins s σ H E I hf st hg
    subst hP hw hK
    obtain ⟨f0, f1, f2, f3, f4, f5⟩ := hf it (by simp)
    exact wpAny_pyNext_range_end (I.ok.hd hc) st (by have : n ≤ i := hg; omega) fun h' eb => ⟨rfl, I.turned (t' := s.toks) (fun b o hb e => eb b o hb e) f0 f1 f3 f4 f5⟩
  self := fun _ _ _ _ _ st h => wpAny_pyIter_rangeiter st h
end L2

namespace L2
open PySem PySem.Spec PyProof.Rows
section
variable {X : Cx} {tg : Expr}
theorem range_it {pins : List (Addr × Obj)} {σ : St} {H : Hp} {s : Shared} {R : It → Hp → Prop} {E : Value → Shared → Prop} {lo hi : Int} {t u v : Tok} {tk : Nat} (I : Inv X pins σ H s) (h1 : -(2 ^ 62) ≤ lo) (h2 : lo < 2 ^ 62) (h3 : -(2 ^ 62) ≤ hi) (h4 : hi < 2 ^ 62)
    (q : R (Itr lo (hi - lo).toNat) H) : wpAny (model X.prog X.w) X.A (pyIter (.ref s.heap.objs.size)) (PIE X pins σ tg R) E { s with heap := s.heap.push { cls := .type "range", data := .fields #[.int lo t, .int hi u, .int 1 v] }, toks := tk } := by
  refine wpAny_pyIter_range (IsRange.new ..) (small_one h1 h2 h3 h4) ?_
  have I1 : Inv X pins σ H { s with heap := s.heap.push { cls := .type "range", data := .fields #[.int lo t, .int hi u, .int 1 v] }, toks := tk } := I.kept fun b o e => Heap.get?_push_of_some _ e
  refine ⟨(s.heap.push { cls := .type "range", data := .fields #[.int lo t, .int hi u, .int 1 v] }).objs.size, [(s.heap.push { cls := .type "range", data := .fields #[.int lo t, .int hi u, .int 1 v] }).objs.size], _, _, H, rfl,
    I1.kept (t' := tk) fun b o e => Heap.get?_push_of_some _ e, turn_range _ lo (hi - lo).toNat, ?_, fun b hb => ?_, q⟩
  · have e1 : lo + ((0 : Nat) : Int) * 1 = lo := by simp
    have e2 : (((hi - lo).toNat : Nat) : Int) - ((0 : Nat) : Int) = Builtin.Range.rangeSize lo hi 1 := by rw [rangeSize_one]; split <;> omega
    show IsRangeIter _ _ (lo + ((0 : Nat) : Int) * 1) ((((hi - lo).toNat : Nat) : Int) - ((0 : Nat) : Int)) 1
    rw [e1, e2]
    exact Heap.get?_push_size _ rfl
  · have e : b = (s.heap.push { cls := .type "range", data := .fields #[.int lo t, .int hi u, .int 1 v] }).objs.size := by simpa using hb
    subst e
    exact I1.fpOk (Nat.le_refl _) (I1.hok.fresh (Nat.le_refl _))
noncomputable def tFor (wi : TI) (g : TG) (tb : TS) : TS := fun D σ H => wi σ H fun J H1 => ∃ W : Nat → Nat → St → Hp → Prop, (∃ m, W 0 m σ H1) ∧ ∀ i m σ H, W i m σ H →
  (J.stop i H ∧ D.nx σ H) ∨ (J.go i H ∧ ∃ N : St → Hp → Prop, (∀ σ' H', N σ' H' → ∃ m', m' < m ∧ W (i + 1) m' σ' H') ∧ ∀ x H', J.yld i H x H' → g x σ H' fun σ2 H2 => tb { D with nx := N, ct := N, bk := D.nx } σ2 H2)
noncomputable def pinsAt (fp : List Addr) (h : Heap) : List (Addr × Obj) := fp.filterMap fun b => (h.get? b).map fun o => (b, o)
theorem mem_pinsAt {fp : List Addr} {h : Heap} {b : Addr} {o : Obj} (hb : b ∈ fp) (e : h.get? b = some o) : (b, o) ∈ pinsAt fp h := List.mem_filterMap.mpr ⟨b, hb, by rw [e]; rfl⟩
theorem of_pinsAt {fp : List Addr} {h : Heap} {p : Addr × Obj} (hp : p ∈ pinsAt fp h) : p.1 ∈ fp ∧ h.get? p.1 = some p.2 := by
  obtain ⟨b, hb, e⟩ := List.mem_filterMap.mp hp
  cases q : h.get? b with
  | none => rw [q] at e; cases e
  | some o =>
    rw [q] at e
    have e' : (b, o) = p := Option.some.inj e
    subst e'
    exact ⟨hb, q⟩
theorem Inv.pinned {pins : List (Addr × Obj)} {σ : St} {H : Hp} {s : Shared} {fp : List Addr} (I : Inv X pins σ H s) (hf : ∀ b ∈ fp, FpOk X pins H b) (ho : ∀ b ∈ fp, ∃ o, s.heap.get? b = some o ∧ ∀ v, o.data ≠ .cell v) : Inv X (pins ++ pinsAt fp s.heap) σ H s :=
  I.pins_of fun p hp => (List.mem_append.mp hp).elim (fun z => I.pin p (List.mem_append_right _ z)) fun z => by
    obtain ⟨hb, e⟩ := of_pinsAt z
    obtain ⟨f0, f1, f2, _⟩ := hf p.1 hb
    obtain ⟨o, e', d⟩ := ho p.1 hb
    rw [e] at e'; cases e'
    exact ⟨e, f0, f1, f2, d⟩
theorem Inv.unpinned {pins pl : List (Addr × Obj)} {σ : St} {H : Hp} {s : Shared} (I : Inv X (pins ++ pl) σ H s) : Inv X pins σ H s := I.pins_of fun p hp => I.pin p (List.mem_append_right _ (List.mem_append_left _ hp))
theorem ps_for {iter : Expr} {body : List Stmt} {wi : TI} {g : TG} {tb : TS} {pos : Pos} (hp : PassesOwn (model X.prog X.w) X.A X.env X.xe) (hc : X.calm = true) (hi : PI X tg iter wi) (hg : PG X tg g) (hb : PSs X body tb)
    (hs : ∀ x, foldedSetIterable iter X.env x = pure x := by intro _; rfl) : PS X (.For tg iter body [] pos) (tFor wi g tb) := by
  intro pins s σ H D I h
  refine wpAny_For (thn (hi pins s σ H _ I h) fun v s1 h1 => thn h1 fun itv s2 h2 => ?_) hs
  obtain ⟨it, fp, tn, J, H2, e, I2, T, st2, f2, W, ⟨m0, w0⟩, turn⟩ := h2
  subst e
  -- what stays true of the iterator's objects through the loop
  have stat : ∀ {H' : Hp}, (∀ b ∈ fp, H' b = none) → ∀ b ∈ fp, FpOk X pins H' b := fun hn b hb => ⟨hn b hb, (f2 b hb).2⟩
  refine codeAny_forLoop_any (fun n s' => ∃ i σ' H', Inv X pins σ' H' s' ∧ tn i s'.heap ∧ (∀ b ∈ fp, H' b = none) ∧ W i n σ' H') ?_ m0 ⟨0, σ, H2, I2, st2, fun b hb => (f2 b hb).1, w0⟩
  rintro n s3 ⟨i, σ3, H3, I3, st3, fr3, w3⟩
  rcases turn i n σ3 H3 w3 with ⟨stop, qn⟩ | ⟨go, N, hN, step⟩
  · refine wpAny_passesOwn hp (thn (T.done X rfl rfl rfl hc i pins s3 σ3 H3 X.xe I3 (stat fr3) st3 stop) fun r s4 ⟨hr, I4⟩ => ?_)
    subst hr
    exact wpAny_execs_nil ⟨σ3, H3, I4, qn⟩
  · refine wpAny_passesOwn hp (thn (T.item X rfl rfl rfl hc i pins s3 σ3 H3 X.xe I3 (stat fr3) st3 go) fun r s4 ⟨u, hr, h4⟩ => ?_)
    subst hr
    refine wpAny_passesOwn hp (thn h4 fun _ s5 ⟨x, H5, I5, r5, y5, st5, fr5⟩ => ?_)
    have I5' := I5.pinned (stat fr5) (T.obj _ _ st5)
    refine wpAny_passesOwn hp (thn (hg _ s5 σ3 H5 x u _ I5' r5 (step x H5 y5)) fun _ s6 ⟨σ6, H6, I6, q6⟩ => ?_)
    refine wpAny_passesOwn hp (thn (hb _ s6 σ6 H6 _ I6 q6) fun f s7 q7 => ?_)
    have again : ∀ {σ7 : St} {H7 : Hp}, Inv X (pins ++ pinsAt fp s5.heap) σ7 H7 s7 → N σ7 H7 → ∃ m, m < n ∧ ∃ i σ' H', Inv X pins σ' H' s7 ∧ tn i s7.heap ∧ (∀ b ∈ fp, H' b = none) ∧ W i m σ' H' := fun {σ7 H7} I7 n7 => by
      obtain ⟨m', hm, w7⟩ := hN σ7 H7 n7
      refine ⟨m', hm, i + 1, σ7, H7, I7.unpinned, T.keep _ _ _ st5 fun b hb o e => (I7.pin (b, o) (List.mem_append_right _ (List.mem_append_right _ (mem_pinsAt hb e)))).1, fun b hb => ?_, w7⟩
      obtain ⟨o, e, d⟩ := T.obj _ _ st5 b hb
      exact (I7.pin (b, o) (List.mem_append_right _ (List.mem_append_right _ (mem_pinsAt hb e)))).2.1
    cases f with
    | next => obtain ⟨σ7, H7, I7, n7⟩ := q7; exact again I7 n7
    | cont => obtain ⟨σ7, H7, I7, n7⟩ := q7; exact again I7 n7
    | brk => obtain ⟨σ7, H7, I7, q7⟩ := q7; exact ⟨σ7, H7, I7.unpinned, q7⟩
    | ret v => obtain ⟨x7, σ7, H7, I7, r7, q7⟩ := q7; exact ⟨x7, σ7, H7, I7.unpinned, r7, q7⟩
end

theorem for_list {K : PySem.W.Frag} {a : Addr} {xs : List V} {g : TG} {tb : TS} {D : Ends} {σ : St} {H : Hp} (Pv : Nat → St → Hp → Prop) (h0 : Pv 0 σ H) (hl : ∀ i σ H, i ≤ xs.length → Pv i σ H → SqL K H a xs)
    (hs : ∀ i x σ H, xs[i]? = some x → Pv i σ H → g x σ H fun σ2 H2 => tb { D with nx := Pv (i + 1), ct := Pv (i + 1), bk := D.nx } σ2 H2) (hd : ∀ σ H, Pv xs.length σ H → D.nx σ H) :
    ∃ W : Nat → Nat → St → Hp → Prop, (∃ m, W 0 m σ H) ∧ ∀ i m σ H, W i m σ H →
      ((Itl K a).stop i H ∧ D.nx σ H) ∨ ((Itl K a).go i H ∧ ∃ N : St → Hp → Prop, (∀ σ' H', N σ' H' → ∃ m', m' < m ∧ W (i + 1) m' σ' H') ∧ ∀ x H', (Itl K a).yld i H x H' → g x σ H' fun σ2 H2 => tb { D with nx := N, ct := N, bk := D.nx } σ2 H2) := by
  refine ⟨fun i m σ H => m = xs.length - i ∧ i ≤ xs.length ∧ Pv i σ H, ⟨xs.length, by simp, Nat.zero_le _, h0⟩, ?_⟩
  rintro i m σ H ⟨rfl, hi, p⟩
  have q := hl i σ H hi p
  by_cases hlt : i < xs.length
  · refine .inr ⟨⟨xs, xs[i], q, by simp [hlt]⟩, Pv (i + 1), fun σ' H' p' => ⟨xs.length - (i + 1), by omega, rfl, hlt, p'⟩, fun x H' y => ?_⟩
    obtain ⟨e, y⟩ := y
    subst e
    exact hs i x σ _ (y xs q) p
  · have e : i = xs.length := by omega
    subst e
    exact .inl ⟨⟨xs, q, Nat.le_refl _⟩, hd σ H p⟩
theorem for_range {lo : Int} {n : Nat} {g : TG} {tb : TS} {D : Ends} {σ : St} {H : Hp} (Pv : Nat → St → Hp → Prop) (h0 : Pv 0 σ H)
    (hs : ∀ i σ H, i < n → Pv i σ H → g (.int (lo + i)) σ H fun σ2 H2 => tb { D with nx := Pv (i + 1), ct := Pv (i + 1), bk := D.nx } σ2 H2) (hd : ∀ σ H, Pv n σ H → D.nx σ H) :
    ∃ W : Nat → Nat → St → Hp → Prop, (∃ m, W 0 m σ H) ∧ ∀ i m σ H, W i m σ H →
      ((Itr lo n).stop i H ∧ D.nx σ H) ∨ ((Itr lo n).go i H ∧ ∃ N : St → Hp → Prop, (∀ σ' H', N σ' H' → ∃ m', m' < m ∧ W (i + 1) m' σ' H') ∧ ∀ x H', (Itr lo n).yld i H x H' → g x σ H' fun σ2 H2 => tb { D with nx := N, ct := N, bk := D.nx } σ2 H2) := by
  refine ⟨fun i m σ H => m = n - i ∧ i ≤ n ∧ Pv i σ H, ⟨n, by simp, Nat.zero_le _, h0⟩, ?_⟩
  rintro i m σ H ⟨rfl, hi, p⟩
  by_cases hlt : i < n
  · refine .inr ⟨hlt, Pv (i + 1), fun σ' H' p' => ⟨n - (i + 1), by omega, rfl, hlt, p'⟩, fun x H' y => ?_⟩
    obtain ⟨e, y⟩ := y
    subst e y
    exact hs i σ _ hlt p
  · have e : i = n := by omega
    subst e
    exact .inl ⟨Nat.le_refl _, hd σ H p⟩
end L2

namespace L2
open PySem PySem.Spec PyProof.Rows

noncomputable abbrev R2 := V → V → Hp → VK → Prop
noncomputable def OpR (X : Cx) (f : Value → Value → Sem Value) (r : R2) : Prop :=
  ∀ (pins : List (Addr × Obj)) (s : Shared) (σ : St) (H : Hp) (x y : V) (v u : Value) (Q : VK), Inv X pins σ H s → RelV x v → RelV y u → r x y H Q →
    wpAny (model X.prog X.w) X.A (f v u) (EP X pins σ Q) X.xe s
noncomputable def CallR (X : Cx) (f : Value) (r : List V → Hp → VK → Prop) : Prop :=
  ∀ (pins : List (Addr × Obj)) (s : Shared) (σ : St) (H : Hp) (xs : List V) (us : List Value) (Q : VK), Inv X pins σ H s → Vals xs us → r xs H Q →
    wpAny (model X.prog X.w) X.A (call f us) (EP X pins σ Q) X.xe s
noncomputable def tOp (r : R2) (ta tb : TE) : TE := fun σ H Q => ta σ H fun x H1 => tb σ H1 fun y H2 => r x y H2 Q
noncomputable def tUn (r : V → Hp → VK → Prop) (ta : TE) : TE := fun σ H Q => ta σ H fun x H1 => r x H1 Q
noncomputable def rI (C : Int → Int → Prop) (g : Int → Int → V) : R2 := fun x y H Q => ∃ i j, x = .int i ∧ y = .int j ∧ C i j ∧ Q (g i j) H
noncomputable def rI0 (g : Int → Int → V) : R2 := fun x y H Q => ∃ i j, x = .int i ∧ y = .int j ∧ Q (g i j) H
noncomputable def rU (g : Int → V) : V → Hp → VK → Prop := fun x H Q => ∃ i, x = .int i ∧ Q (g i) H

section
variable {X : Cx} {a b c : Expr} {ta tb tc : TE} {pos : Pos}

theorem binT (ha : PE X a ta) (hb : PE X b tb) {pins : List (Addr × Obj)} {s : Shared} {σ : St} {H : Hp} {R : V → V → Hp → Prop} (I : Inv X pins σ H s)
    (h : ta σ H fun x H1 => tb σ H1 fun y H2 => R x y H2) {Q : Value → Shared → Prop} {f : Value → Value → Sem Value}
    (hf : ∀ v u s2 x y H2, Inv X pins σ H2 s2 → RelV x v → RelV y u → R x y H2 → wpAny (model X.prog X.w) X.A (f v u) Q X.xe s2) :
    wpAny (model X.prog X.w) X.A (eval a X.env) (fun v s₁ => wpAny (model X.prog X.w) X.A (eval b X.env) (fun u s₂ => wpAny (model X.prog X.w) X.A (f v u) Q X.xe s₂) X.xe s₁) X.xe s := by
  refine thn (ha pins s σ H _ I h) fun v s1 ⟨x, H1, I1, r1, q1⟩ => ?_
  refine thn (hb pins s1 σ H1 _ I1 q1) fun u s2 ⟨y, H2, I2, r2, q2⟩ => ?_
  exact hf v u s2 x y H2 I2 r1 r2 q2

theorem pe_op {op : Operator} {r : R2} (ho : OpR X (binaryOp op) r) (ha : PE X a ta) (hb : PE X b tb) : PE X (.BinOp a op b pos) (tOp r ta tb) := by
  intro pins s σ H Q I h
  exact wpAny_BinOp (binT ha hb I h fun v u s2 x y H2 I2 rx ry q => ho pins s2 σ H2 x y v u Q I2 rx ry q)
theorem opI {f : Value → Value → Sem Value} {C : Int → Int → Prop} {g : Int → Int → Int}
    (rule : ∀ (i j : Int) (t u : Tok) (s : Shared) (Q : Value → Shared → Prop) (E : Value → Shared → Prop), C i j → Q (.int (g i j) s.toks) { s with toks := s.toks + 1 } → wpAny (model X.prog X.w) X.A (f (.int i t) (.int j u)) Q E s) :
    OpR X f (rI C fun i j => .int (g i j)) := by
  intro pins s σ H x y v u Q I rx ry h
  obtain ⟨i, j, rfl, rfl, hc, q⟩ := h
  obtain ⟨t, rfl⟩ := rx
  obtain ⟨t', rfl⟩ := ry
  exact rule i j t t' s _ _ hc ⟨.int (g i j), H, I.tok _, ⟨_, rfl⟩, q⟩
theorem opI0 {f : Value → Value → Sem Value} {g : Int → Int → Int}
    (rule : ∀ (i j : Int) (t u : Tok) (s : Shared) (Q : Value → Shared → Prop) (E : Value → Shared → Prop), Q (.int (g i j) s.toks) { s with toks := s.toks + 1 } → wpAny (model X.prog X.w) X.A (f (.int i t) (.int j u)) Q E s) :
    OpR X f (rI0 fun i j => .int (g i j)) := by
  intro pins s σ H x y v u Q I rx ry h
  obtain ⟨i, j, rfl, rfl, q⟩ := h
  obtain ⟨t, rfl⟩ := rx
  obtain ⟨t', rfl⟩ := ry
  exact rule i j t t' s _ _ ⟨.int (g i j), H, I.tok _, ⟨_, rfl⟩, q⟩
theorem opB0 {f : Value → Value → Sem Value} {g : Int → Int → Bool}
    (rule : ∀ (i j : Int) (t u : Tok) (s : Shared) (Q : Value → Shared → Prop) (E : Value → Shared → Prop), Q (.bool (g i j)) s → wpAny (model X.prog X.w) X.A (f (.int i t) (.int j u)) Q E s) :
    OpR X f (rI0 fun i j => .bl (g i j)) := by
  intro pins s σ H x y v u Q I rx ry h
  obtain ⟨i, j, rfl, rfl, q⟩ := h
  obtain ⟨t, rfl⟩ := rx
  obtain ⟨t', rfl⟩ := ry
  exact rule i j t t' s _ _ ⟨.bl (g i j), H, I, rfl, q⟩

noncomputable def CDiv (i j : Int) : Prop := 0 < j ∧ j < 1073741824
noncomputable def CMul (i j : Int) : Prop := (-(2 ^ 64) < i ∧ i < 2 ^ 64) ∨ (-(2 ^ 64) < j ∧ j < 2 ^ 64)
theorem CMul.ok {i j : Int} (h : CMul i j) : IntMulOk i j := by
  rcases h with ⟨h1, h2⟩ | ⟨h1, h2⟩
  · exact .of_left (intBits_le_64 h1 h2)
  · exact .of_right (intBits_le_64 h1 h2)
theorem op_add : OpR X (binaryOp .Add) (rI0 fun i j => .int (i + j)) := opI0 fun _ _ _ _ _ _ _ q => add_int q
theorem op_sub : OpR X (binaryOp .Sub) (rI0 fun i j => .int (i - j)) := opI0 fun _ _ _ _ _ _ _ q => sub_int q
theorem op_mul : OpR X (binaryOp .Mult) (rI CMul fun i j => .int (i * j)) := opI fun _ _ _ _ _ _ _ hc q => mul_int q hc.ok
theorem op_fdiv : OpR X (binaryOp .FloorDiv) (rI CDiv fun i j => .int (i / j)) := opI fun i j _ _ _ _ _ hc q => by
  have h1 : (0 : Int) < j := hc.1
  have h2 : j < 1073741824 := hc.2
  exact floordiv_int (by omega) (by rw [Int.fdiv_eq_ediv_of_nonneg i (by omega)]; exact q) (.inl (PyProof.noPylong_small (by omega)))
theorem op_mod : OpR X (binaryOp .Mod) (rI (fun _ j => 0 < j) fun i j => .int (i % j)) := opI fun i j _ _ _ _ _ hc q => by
  have h1 : (0 : Int) < j := hc
  exact mod_int' (by omega) (by rw [Int.fmod_eq_emod_of_nonneg i (by omega)]; exact q)
end

noncomputable def scal : V → V → Bool
  | .non, .non => true | .non, .int _ => true | .int _, .non => true | .non, .bl _ => true | .bl _, .non => true | .non, .str _ => true | .str _, .non => true
  | .int _, .int _ => true | .bl _, .bl _ => true | .str _, .str _ => true | .byt _, .byt _ => true
  | .int _, .str _ => true | .str _, .int _ => true | .bl _, .str _ => true | .str _, .bl _ => true
  | _, _ => false
noncomputable def rEq : R2 := fun x y H Q => scal x y = true ∧ Q (.bl (decide (x = y))) H
noncomputable def rNe : R2 := fun x y H Q => scal x y = true ∧ Q (.bl (!decide (x = y))) H

theorem dec_int {i j : Int} : decide (V.int i = V.int j) = (i == j) := by
  rw [Bool.eq_iff_iff]
  simp
theorem dec_bl {i j : Bool} : decide (V.bl i = V.bl j) = (i == j) := by
  rw [Bool.eq_iff_iff]
  simp
theorem dec_str {i j : Str} : decide (V.str i = V.str j) = (i == j) := by
  rw [Bool.eq_iff_iff]
  simp
theorem dec_byt {i j : Array UInt8} : decide (V.byt i = V.byt j) = (i.toList == j.toList) := by
  rw [Bool.eq_iff_iff]
  cases i
  cases j
  simp

section
variable {X : Cx} {a b c : Expr} {ta tb tc : TE} {pos : Pos}
theorem fin_bl {pins : List (Addr × Obj)} {σ : St} {H : Hp} {s : Shared} {Q : VK} {k k' : Bool} (I : Inv X pins σ H s) (q : Q (.bl k) H) (e : k = k') : EP X pins σ Q (.bool k') s := by
  subst e
  exact ⟨.bl k, H, I, rfl, q⟩
theorem op_eq : OpR X (compareOp .Eq) rEq := by
  intro pins s σ H x y v u Q I rx ry h
  obtain ⟨hs, q⟩ := h
  cases x with
  | non =>
    cases rx
    cases y with
    | non => cases ry; exact PySem.EqNone.eq_none_none (fin_bl I q (by simp))
    | bl j => cases ry; exact PySem.EqNone.eq_none_bool (fin_bl I q (by simp))
    | int j => obtain ⟨t', rfl⟩ := ry; exact PySem.EqNone.eq_none_int (fin_bl I q (by simp))
    | str j => obtain ⟨t', rfl⟩ := ry; exact PySem.EqNone.eq_none_str (fin_bl I q (by simp))
    | _ => exact absurd (show false = true from hs) Bool.false_ne_true
  | bl i =>
    cases rx
    cases y with
    | non => cases ry; exact PySem.EqNone.eq_bool_none (fin_bl I q (by simp))
    | bl j => cases ry; exact eq_bool (fin_bl I q dec_bl)
    | str j => obtain ⟨t', rfl⟩ := ry; exact PySem.EqMixed.eq_bool_str (fin_bl I q (by simp))
    | _ => exact absurd (show false = true from hs) Bool.false_ne_true
  | int i =>
    obtain ⟨t, rfl⟩ := rx
    cases y with
    | non => cases ry; exact PySem.EqNone.eq_int_none (fin_bl I q (by simp))
    | int j => obtain ⟨t', rfl⟩ := ry; exact eq_int (fin_bl I q dec_int)
    | str j => obtain ⟨t', rfl⟩ := ry; exact PySem.EqMixed.eq_int_str (fin_bl I q (by simp))
    | _ => exact absurd (show false = true from hs) Bool.false_ne_true
  | str i =>
    obtain ⟨t, rfl⟩ := rx
    cases y with
    | non => cases ry; exact PySem.EqNone.eq_str_none (fin_bl I q (by simp))
    | bl j => cases ry; exact PySem.EqMixed.eq_str_bool (fin_bl I q (by simp))
    | int j => obtain ⟨t', rfl⟩ := ry; exact PySem.EqMixed.eq_str_int (fin_bl I q (by simp))
    | str j => obtain ⟨t', rfl⟩ := ry; exact eq_str (fin_bl I q dec_str)
    | _ => exact absurd (show false = true from hs) Bool.false_ne_true
  | byt i =>
    obtain ⟨t, rfl⟩ := rx
    cases y with
    | byt j => obtain ⟨t', rfl⟩ := ry; exact PySem.W.eq_bytes (fin_bl I q dec_byt)
    | _ => exact absurd (show false = true from hs) Bool.false_ne_true
  | _ => cases y <;> exact absurd (show false = true from hs) Bool.false_ne_true
theorem op_ne : OpR X (compareOp .NotEq) rNe := by
  intro pins s σ H x y v u Q I rx ry h
  obtain ⟨hs, q⟩ := h
  cases x with
  | non =>
    cases rx
    cases y with
    | non => cases ry; exact PySem.EqNone.ne_none_none (fin_bl I q (by simp))
    | bl j => cases ry; exact PySem.EqNone.ne_none_bool (fin_bl I q (by simp))
    | int j => obtain ⟨t', rfl⟩ := ry; exact PySem.EqNone.ne_none_int (fin_bl I q (by simp))
    | str j => obtain ⟨t', rfl⟩ := ry; exact PySem.EqNone.ne_none_str (fin_bl I q (by simp))
    | _ => exact absurd (show false = true from hs) Bool.false_ne_true
  | bl i =>
    cases rx
    cases y with
    | non => cases ry; exact PySem.EqNone.ne_bool_none (fin_bl I q (by simp))
    | bl j => cases ry; exact ne_bool (fin_bl I q (congrArg not dec_bl))
    | str j => obtain ⟨t', rfl⟩ := ry; exact PySem.EqMixed.ne_bool_str (fin_bl I q (by simp))
    | _ => exact absurd (show false = true from hs) Bool.false_ne_true
  | int i =>
    obtain ⟨t, rfl⟩ := rx
    cases y with
    | non => cases ry; exact PySem.EqNone.ne_int_none (fin_bl I q (by simp))
    | int j => obtain ⟨t', rfl⟩ := ry; exact ne_int (fin_bl I q (congrArg not dec_int))
    | str j => obtain ⟨t', rfl⟩ := ry; exact PySem.EqMixed.ne_int_str (fin_bl I q (by simp))
    | _ => exact absurd (show false = true from hs) Bool.false_ne_true
  | str i =>
    obtain ⟨t, rfl⟩ := rx
    cases y with
    | non => cases ry; exact PySem.EqNone.ne_str_none (fin_bl I q (by simp))
    | bl j => cases ry; exact PySem.EqMixed.ne_str_bool (fin_bl I q (by simp))
    | int j => obtain ⟨t', rfl⟩ := ry; exact PySem.EqMixed.ne_str_int (fin_bl I q (by simp))
    | str j => obtain ⟨t', rfl⟩ := ry; exact ne_str (fin_bl I q (congrArg not dec_str))
    | _ => exact absurd (show false = true from hs) Bool.false_ne_true
  | byt i =>
    obtain ⟨t, rfl⟩ := rx
    cases y with
    | byt j => obtain ⟨t', rfl⟩ := ry; exact PySem.W.ne_bytes (fin_bl I q (congrArg not dec_byt))
    | _ => exact absurd (show false = true from hs) Bool.false_ne_true
  | _ => cases y <;> exact absurd (show false = true from hs) Bool.false_ne_true

theorem op_lt : OpR X (compareOp .Lt) (rI0 fun i j => .bl (decide (i < j))) := opB0 fun _ _ _ _ _ _ _ q => lt_int q
theorem op_in_str : OpR X (compareOp .In) (fun x y H Q => ∃ i j, x = .str i ∧ y = .str j ∧ Q (.bl (!(Builtin.Str.occurrences j i 0 j.length 1).isEmpty)) H) := by
  intro pins s σ H x y v u Q I rx ry h
  obtain ⟨i, j, rfl, rfl, q⟩ := h
  obtain ⟨t, rfl⟩ := rx
  obtain ⟨t', rfl⟩ := ry
  exact in_str (fin_bl I q rfl)

theorem OpR.or {f : Value → Value → Sem Value} {r r' : R2} (h : OpR X f r) (h' : OpR X f r') : OpR X f (fun x y H Q => r x y H Q ∨ r' x y H Q) := by
  intro pins s σ H x y v u Q I rx ry q
  rcases q with q | q
  · exact h pins s σ H x y v u Q I rx ry q
  · exact h' pins s σ H x y v u Q I rx ry q

theorem nomark (b : Expr) {op : CmpOp} (h : op ≠ .In := by decide) (h2 : op ≠ .NotIn := by decide) : behindInMarks op b = false := by
  have e1 : (op == CmpOp.In) = false := by cases op <;> first | rfl | exact absurd rfl h
  have e2 : (op == CmpOp.NotIn) = false := by cases op <;> first | rfl | exact absurd rfl h2
  cases b <;> simp [behindInMarks, e1, e2]
theorem pe_cmpR {op : CmpOp} {r : R2} (ho : OpR X (compareOp op) r) (ha : PE X a ta) (hb : PE X b tb) (hm : behindInMarks op b = false) : PE X (.Compare a [op] [b] pos) (tOp r ta tb) := by
  intro pins s σ H Q I h
  exact wpAny_Compare1 (binT ha hb I h fun v u s2 x y H2 I2 rx ry q => ho pins s2 σ H2 x y v u Q I2 rx ry q) hm
noncomputable def tTest (t : TE) : TT := fun σ H Q => t σ H fun x H' => ∃ k, x = .bl k ∧ Q k H'
theorem pt_cmpR {op : CmpOp} {r : R2} (ho : OpR X (compareOp op) r) (ha : PE X a ta) (hb : PE X b tb) (hm : behindInMarks op b = false) : PT X (.Compare a [op] [b] pos) (tTest (tOp r ta tb)) := by
  intro pins s σ H Q I h
  refine wpAny_isTrue_Compare1 (thn (ha pins s σ H _ I h) fun v s1 ⟨x, H1, I1, r1, q1⟩ => thn (hb pins s1 σ H1 _ I1 q1) fun u s2 ⟨y, H2, I2, r2, q2⟩ =>
    thn (ho pins s2 σ H2 x y v u _ I2 r1 r2 q2) fun c s3 ⟨z, H3, I3, r3, k, e, q3⟩ => ?_) hm
  subst e
  cases r3
  exact wpAny_truthy_bool ⟨H3, I3, q3⟩
noncomputable def tChain (r r' : R2) (ta tb tc : TE) : TE := fun σ H Q => ta σ H fun x H1 => tb σ H1 fun y H2 => r x y H2 fun z H3 => ∃ k, z = .bl k ∧
  (if k = true then tc σ H3 fun w' H4 => r' y w' H4 Q else Q (.bl false) H3)
theorem line63 : (sizeLine : Nat) < 2 ^ 63 := by rw [sizeLine_eq]; decide
theorem op_add_str : OpR X (binaryOp .Add) (fun x y H Q => ∃ i j, x = .str i ∧ y = .str j ∧ i.length + j.length ≤ sizeLine ∧ Q (.str (i ++ j)) H) := by
  intro pins s σ H x y v u Q I rx ry h
  obtain ⟨i, j, rfl, rfl, hz, q⟩ := h
  obtain ⟨t, rfl⟩ := rx
  obtain ⟨t', rfl⟩ := ry
  exact add_str (fun t' tk => ⟨.str (i ++ j), H, I.tok _, ⟨_, rfl⟩, q⟩) hz
theorem vals1 {x : V} {us : List Value} (r : Vals [x] us) : ∃ u, us = [u] ∧ RelV x u := by
  cases r with
  | cons r1 r2 => cases r2; exact ⟨_, rfl, r1⟩
theorem vals2 {x y : V} {us : List Value} (r : Vals [x, y] us) : ∃ u w', us = [u, w'] ∧ RelV x u ∧ RelV y w' := by
  cases r with
  | cons r1 r2 =>
    cases r2 with
    | cons r3 r4 => cases r4; exact ⟨_, _, rfl, r1, r3⟩
theorem call_min2 (hc : X.calm = true) : CallR X (.builtin "min") (fun xs H Q => ∃ i j, xs = [.int i, .int j] ∧ Q (.int (if j < i then j else i)) H) := by
  intro pins s σ H xs us Q I r h
  obtain ⟨i, j, rfl, q⟩ := h
  obtain ⟨u, w', rfl, ⟨t, rfl⟩, ⟨t', rfl⟩⟩ := vals2 r
  refine min_two_ints (I.ok.hd hc) fun h' tk k => ⟨_, H, I.kept k, ?_, q⟩
  by_cases hj : j < i
  · rw [if_pos hj, if_pos hj]; exact ⟨_, rfl⟩
  · rw [if_neg hj, if_neg hj]; exact ⟨_, rfl⟩
end
end L2

namespace L2
open PySem PySem.Spec PyProof.Rows

structure ObjM (h : Heap) (x dx C : Addr) (mA : Str → Option Value) : Prop where
  obj : h.get? x = some (PySem.W.instObj C dx)
  ns : h.Ns1 dx mA
  ne : dx ≠ x

theorem lookIn_ns {h : Heap} {dx : Addr} {mA : Str → Option Value} (n : h.Ns1 dx mA) : ∃ od, h.get? dx = some od ∧ ∀ name, PySem.W.lookIn name od = some (mA name) := by
  obtain ⟨o, es, ep, ho, hd, hk, _, hm⟩ := n
  refine ⟨o, ho, fun name => ?_⟩
  have e := hm name
  unfold nsFind findBy at e
  rw [← Array.find?_toList] at e
  unfold PySem.W.lookIn
  rw [hd]
  dsimp only
  split
  · rename_i y q
    rw [q] at e
    exact congrArg some e
  · rename_i q
    rw [q] at e
    have a : es.toList.any (·.refKey) = false := by
      rw [List.any_eq_false]
      intro y hy
      obtain ⟨z, t, hkey⟩ := hk y (Array.mem_toList_iff.mp hy)
      simp [DictEntry.refKey, hkey]
    have a' : ¬ es.toList.any (·.refKey) = true := by rw [a]; exact Bool.false_ne_true
    rw [if_neg a']
    exact congrArg some e

theorem ObjM.look {h : Heap} {x dx C : Addr} {mA : Str → Option Value} (I : ObjM h x dx C mA) : ∃ od, PySem.W.InstAt h x (PySem.W.instObj C dx) C (some od) ∧ ∀ name, PySem.W.lookIn name od = some (mA name) :=
  let ⟨od, ho, hl⟩ := lookIn_ns I.ns
  ⟨od, ⟨I.obj, rfl, rfl, ho⟩, hl⟩

section
variable {prog : Program} {w : World} {A : Around} {E : Value → Shared → Prop} {s : Shared} {K : PySem.W.Frag} {x dx C f : Addr} {mA : Str → Option Value} {name : Str} {v : Value}

theorem get_meth {pl : Sem Bool} {Q : Value × List Value → Shared → Prop} (X : K.In s.heap) (I : ObjM s.heap x dx C mA) (hg : PySem.W.plainGet K C name = true)
    (hf : PySem.W.findIn K (.ref C) name = some (some (.ref f))) (ht : PySem.W.isFn K (.ref f) = true) (hv : mA name = none) (h : Q (.ref f, [.ref x]) s) :
    wpAny (model prog w) A (getMethod (.ref x) name pl) Q E s := by
  obtain ⟨od, J, hl⟩ := I.look
  exact PySem.W.method_fn X J (PySem.W.plainGet_of hg).1 (PySem.W.plainGet_of hg).2 hf (beq_iff_eq.mp ht) (by show (PySem.W.lookIn name od).map (·.isSome) = some false; rw [hl, hv]; rfl) h

theorem make_map0 {R : Result → Shared → Prop} (X : K.In s.heap) (hm : PySem.W.makesIn K C = true)
    (hi : PySem.W.findIn K (.ref C) "__init__" = some (some (.builtin "object.__init__")))
    (hb : ∀ self, PySem.W.Looks (model prog w) s.heap (bindSpecial (.builtin "object.__init__") self) (.builtin "object.__init__", [self]))
    (h : codeAny (model prog w) (A.under (.builtin "type.__call__" ⟨[.ref C], []⟩)) (.call (.builtin "object.__init__") ⟨[.ref (s.heap.objs.size + 1)], []⟩) (PySem.W.InitBack (s.heap.objs.size + 1) R)
      { s with heap := (s.heap.push PySem.W.emptyDict).push (PySem.W.instObj C s.heap.objs.size) }) :
    codeAny (model prog w) A (.call (.ref C) ⟨[], []⟩) R s := by
  obtain ⟨hh, g, d, t, os⟩ := s
  exact PySem.W.make_core (PySem.W.makes_of X hm) (PySem.W.looks_findIn X hi) hb (.inr ⟨rfl, rfl⟩) h
end

theorem RelO.none_of {o : Option Value} (r : RelO none o) : o = none := by
  cases o with
  | none => rfl
  | some u => exact (show False from r).elim
section
variable {P : Program} {w : World} {H H' : Hp} {h h' : Heap} {a C dx : Addr} {fs fs' : List (Str × V)}
theorem ins_get (hok : HOk P w H h) (e : H a = some (.ins C dx fs)) : ∃ mA, ObjM h a dx C mA ∧ (∀ f, RelO (fs.lookup f) (mA f)) ∧ PySem.Within mA (fs.map (·.1)) ∧ fs.length ≤ 1000 ∧ H dx = some (.own a) := by
  obtain ⟨d, z, ne, ob, mA, n, r, q⟩ := (show ObjOk P w H h a (.ins C dx fs) from hok a _ e)
  exact ⟨mA, ⟨ob, n, ne⟩, r, q, z, d⟩
end

structure Cls (K : PySem.W.Frag) (C : Addr) : Prop where
  pg : PySem.W.plainGet K C Str.empty = true
  hd : PySem.W.hasDictIn K C = true
  po : PySem.W.plainOver K C = true
  sa : PySem.W.findIn K (.ref C) "__setattr__" = some (some (.builtin "object.__setattr__"))
theorem Cls.get {K : PySem.W.Frag} {C : Addr} (c : Cls K C) (f : Str) : PySem.W.plainGet K C f = true := c.pg
structure Con (K : PySem.W.Frag) (C : Addr) (f : Str) (v : V) (u : Value) : Prop where
  at_ : PySem.W.findIn K (.ref C) f = some (some u)
  rel : RelV v u
  get : PySem.W.specialIn K u "__get__" = some none
  cp : PySem.W.copiedNames.contains f = false
structure Meth (K : PySem.W.Frag) (C : Addr) (m : Str) (f : Addr) : Prop where
  at_ : PySem.W.findIn K (.ref C) m = some (some (.ref f))
  fn : PySem.W.isFn K (.ref f) = true
  kp : PySem.W.keepIn K (.ref f) = true

section
variable {X : Cx} {pins : List (Addr × Obj)} {σ : St} {H : Hp} {s : Shared} {a C dx : Addr} {fs : List (Str × V)} {f : Str} {v : V} {A : Around} {E : Value → Shared → Prop}

theorem getmeth_ok {m : Str} {g : Addr} {pl : Sem Bool} {Q : Value × List Value → Shared → Prop} (I : Inv X pins σ H s) (e : H a = some (.ins C dx fs)) (c : Cls X.K C) (k : Meth X.K C m g) (l : fs.lookup m = none)
    (h : Q (.ref g, [.ref a]) s) : wpAny (model X.prog X.w) A (getMethod (.ref a) m pl) Q E s := by
  obtain ⟨mA, O, r, _, _, _⟩ := ins_get I.hok e
  have hn : mA m = none := RelO.none_of (by rw [← l]; exact r m)
  exact get_meth I.kIn O (c.get m) k.at_ k.fn hn h

theorem Inv.made (I : Inv X pins σ H s) : Inv X pins σ (upd (upd H s.heap.objs.size (.own (s.heap.objs.size + 1))) (s.heap.objs.size + 1) (.ins C s.heap.objs.size []))
    { s with heap := (s.heap.push PySem.W.emptyDict).push (PySem.W.instObj C s.heap.objs.size) } := by
  have e1 : (s.heap.push PySem.W.emptyDict).get? s.heap.objs.size = some PySem.W.emptyDict := Heap.get?_push_size s.heap rfl
  have e2 : ((s.heap.push PySem.W.emptyDict).push (PySem.W.instObj C s.heap.objs.size)).get? (s.heap.objs.size + 1) = some (PySem.W.instObj C s.heap.objs.size) := by
    have := Heap.get?_push_size (s.heap.push PySem.W.emptyDict) (o := PySem.W.instObj C s.heap.objs.size) rfl
    rwa [Heap.size_push] at this
  have e3 : (s.heap.push PySem.W.emptyDict).Ns s.heap.objs.size (fun _ => none) := ⟨PySem.W.emptyDict, #[], _, e1, rfl, (fun e he => absurd he (by simp)), fun _ => rfl⟩
  have I1 := I.laid (a := s.heap.objs.size) (o := .own (s.heap.objs.size + 1)) (h' := s.heap.push PySem.W.emptyDict) (t' := s.toks) (fun b u q => Heap.get?_push_of_some _ q) (Nat.le_refl _) ⟨_, e1⟩
  refine I1.laid (a := s.heap.objs.size + 1) (o := .ins C s.heap.objs.size []) (t' := s.toks) (fun b u q => Heap.get?_push_of_some _ q) (Nat.le_of_eq (Heap.size_push _ _)) ?_
  have ne : s.heap.objs.size ≠ s.heap.objs.size + 1 := Nat.ne_of_lt (Nat.lt_succ_self _)
  refine ⟨by rw [upd_ne ne, upd_same], Nat.zero_le _, ne, e2, fun _ => none, (Heap.Ns1.of_empty e3).at fun o q => Heap.get?_push_of_some _ q, fun _ => True.intro, fun y hy => absurd rfl hy⟩

end

section
variable {X : Cx} {o e value : Expr} {f : Str} {pos pos' tpos : Pos} {ta tv : TE}
end

section
variable {X : Cx} {pins : List (Addr × Obj)} {σ : St} {H : Hp} {s : Shared} {A : Around} {E : Value → Shared → Prop} {Q : Value → Shared → Prop} {c : Value} {b : Bool}
inductive TyOf (K : PySem.W.Frag) (H : Hp) : V → Value → Prop where
  | non : TyOf K H .non (.type "NoneType")
  | bl (x : Bool) : TyOf K H (.bl x) (.type "bool")
  | int (i : Int) : TyOf K H (.int i) (.type "int")
  | str (x : Str) : TyOf K H (.str x) (.type "str")
  | flt (x : UInt64) : TyOf K H (.flt x) (.type "float")
  | lst {a : Addr} {xs : List V} (e : H a = some (.lst xs)) : TyOf K H (.ref a) (.type "list")
  | frz {a : Addr} {o : Obj} {xs : List V} (e : H a = some (.frz o (.lst xs))) : TyOf K H (.ref a) (.type "list")
  | tup {a : Addr} {xs : List V} (e : H a = some (.tup xs)) : TyOf K H (.ref a) (.type "tuple")
  | dK {a : Addr} {kvs : List (Key × V)} (e : H a = some (.dK kvs)) : TyOf K H (.ref a) (.type "dict")
  | dT {a : Addr} {kvs : List (List Key × V)} (e : H a = some (.dT kvs)) : TyOf K H (.ref a) (.type "dict")
  | ins {a C dx : Addr} {fs : List (Str × V)} (e : H a = some (.ins C dx fs)) (cl : Cls K C) (ha : PySem.W.findIn K (.ref C) "__class__" = some (some (.builtin "object.__class__")))
      (hn : PySem.W.specialIn K (.builtin "object.__class__") "__get__" = some (some (.builtin "getset_descriptor.__get__"))) (htk : PySem.W.takesIn K (.builtin "object.__class__") = some true)
      (hm : PySem.W.mroIn K C (.type "object") = some true) : TyOf K H (.ref a) (.ref C)
end
end L2

namespace L2
open PySem PySem.Spec PyProof.Rows

structure Room (k : Nat) (A : Around) : Prop where
  hd : A.handled = none
  dp : A.depth + 3 * k + 5 < recursionLimit
  un : A.units + 16 * k + 200 < cLine
theorem Room.mono {j k : Nat} {A : Around} (r : Room k A) (h : j ≤ k) : Room j A := ⟨r.hd, by have := r.dp; omega, by have := r.un; omega⟩
theorem Room.deeper {k : Nat} {A : Around} (r : Room (k + 1) A) (env : Env) : Room k (A.deeper env) :=
  ⟨r.hd, by have := r.dp; show A.depth + 1 + 3 * k + 5 < _; omega, by have := r.un; show A.units + 3 + 16 * k + 200 < _; omega⟩
theorem make_depth {A : Around} {C : Addr} {us : List Value} {kw : List (Str × Value)} : (A.under (.builtin "type.__call__" ⟨.ref C :: us, kw⟩)).depth = A.depth + 1 := by
  first | rfl | simp [Around.under, Code.weight, Code.isCreation, Code.isGuard, Code.isCaller, Code.frames, Code.isFrame, guardIds]
theorem make_units {A : Around} {C : Addr} {us : List Value} {kw : List (Str × Value)} : (A.under (.builtin "type.__call__" ⟨.ref C :: us, kw⟩)).units = A.units + 1 := by
  first | rfl | simp [Around.under, Code.cUnits, Code.frames, Code.isFrame]
theorem Room.make {k : Nat} {A : Around} (r : Room (k + 1) A) (C : Addr) (us : List Value) (kw : List (Str × Value)) : Room k (A.under (.builtin "type.__call__" ⟨.ref C :: us, kw⟩)) :=
  ⟨r.hd, by have := r.dp; rw [make_depth]; omega, by have := r.un; rw [make_units]; omega⟩
theorem Room.depth {k : Nat} {A : Around} (r : Room k A) : A.depth < recursionLimit := by have := r.dp; omega
theorem Room.units {k : Nat} {A : Around} (r : Room k A) : A.units + 64 < cLine := by have := r.un; omega
noncomputable def tNil : TA := fun _ H Q => Q [] H
noncomputable def tCons (ta : TE) (tr : TA) : TA := fun σ H Q => ta σ H fun x H1 => tr σ H1 fun xs H2 => Q (x :: xs) H2
section
variable {X : Cx} {e : Expr} {es : List Expr} {te : TE} {t : TA} {pos : Pos}
theorem pa_nil : PA X [] tNil := fun _ _ _ _ H Q I h => Calls.spliced_nil ⟨[], H, I, .nil, h⟩
theorem pa_cons (ha : PE X e te) (hr : PA X es t) (hs : starEach (e :: es) X.env = (false, eval e X.env) :: starEach es X.env := by rfl) : PA X (e :: es) (tCons te t) := by
  intro pos pins s σ H Q I h
  rw [hs]
  show wpAny _ _ (spliced ((false, eval e X.env) :: backTo pos (starEach es X.env))) _ _ s
  refine Calls.spliced_cons (thn (ha pins s σ H _ I h) fun u s1 ⟨x, H1, I1, r1, q1⟩ => ?_)
  exact thn (hr pos pins s1 σ H1 _ I1 q1) fun us s2 ⟨xs, H2, I2, r2, q2⟩ => ⟨x :: xs, H2, I2, .cons r1 r2, q2⟩

noncomputable def tTup (t : TA) : TE := fun σ H Q => t σ H fun xs H1 => xs.length ≤ sizeLine ∧ ∀ p, H1 p = none → Q (.ref p) (upd H1 p (.tup xs))
noncomputable def tLst (t : TA) : TE := fun σ H Q => t σ H fun xs H1 => xs.length ≤ sizeLine ∧ ∀ p, H1 p = none → Q (.ref p) (upd H1 p (.lst xs))
theorem pe_tup {x1} (h : PA X es t) : PE X (.Tuple es x1 pos) (tTup t) := by
  intro pins s σ H Q I hq
  refine wpAny_Tuple_spliced (thn (h pos pins s σ H _ I hq) fun us s1 ⟨xs, H1, I1, r, z, q⟩ => ⟨by rw [← r.length]; exact z, ?_⟩)
  have hf : H1 s1.heap.objs.size = none := I1.hok.fresh (Nat.le_refl _)
  refine ⟨.ref s1.heap.objs.size, upd H1 s1.heap.objs.size (.tup xs), I1.laid (t' := s1.toks) (fun b u e => Heap.get?_push_of_some _ e) (Nat.le_refl _) ?_, rfl, q _ hf⟩
  exact ⟨z, us, r, ⟨_, Heap.get?_push_size _ rfl, rfl, _, rfl⟩⟩
theorem pe_lst (h : PA X es t) : PE X (.List es pos) (tLst t) := by
  intro pins s σ H Q I hq
  refine wpAny_List_spliced (thn (h pos pins s σ H _ I hq) fun us s1 ⟨xs, H1, I1, r, z, q⟩ => ⟨by rw [← r.length]; exact z, ?_⟩)
  have hf : H1 s1.heap.objs.size = none := I1.hok.fresh (Nat.le_refl _)
  refine ⟨.ref s1.heap.objs.size, upd H1 s1.heap.objs.size (.lst xs), I1.laid (t' := s1.toks) (fun b u e => Heap.get?_push_of_some _ e) (Nat.le_refl _) ?_, rfl, q _ hf⟩
  exact ⟨z, us, 0, r, Heap.get?_push_size _ rfl⟩
end

noncomputable abbrev Sp := List V → Hp → VK → XK → Prop
noncomputable abbrev CXT := List Env → Hp → Shared → XK → Value → Shared → Prop

structure Env0 (P : Program) (w : World) (K : PySem.W.Frag) (mg : Str → Option Value) (base : Heap) (A : Around) (outer : List Env) (s : Shared) (H : Hp) : Prop where
  frames : A.frames = some outer
  mod : Mod K mg base
  bs : ∀ b o, base.get? b = some o → s.heap.get? b = some o ∧ H b = none
  bsz : base.objs.size ≤ s.heap.objs.size
  funs : s.heap.FunFrames base outer
  frf : ∀ b ∈ frs outer, H b = none
  hok : HOk P w H s.heap
  bare : AllBare s.gens
noncomputable def CE (outer : List Env) (P : Program) (w : World) (H : Hp) (s : Shared) (Q : VK) (u : Value) (s' : Shared) : Prop :=
  ∃ v H', s'.os = s.os ∧ AllBare s'.gens ∧ Un (frs outer) [] H H' s.heap s'.heap ∧ HOk P w H' s'.heap ∧ RelV v u ∧ Q v H'
noncomputable def CR (CX : CXT) (outer : List Env) (P : Program) (w : World) (H : Hp) (s : Shared) (Q : VK) (E : XK) (r : Result) (s' : Shared) : Prop :=
  match r with
  | .ok (.ret u) => CE outer P w H s Q u s'
  | .ok _ => False
  | .error e => CX outer H s E e s'
structure FnOk (P : Program) (w : World) (K : PySem.W.Frag) (mg : Str → Option Value) (base : Heap) (CX : CXT) (k : Nat) (f : Addr) (fd : FuncData) (ps : List Str) (sp : Sp) : Prop where
  len : ∀ vs H Q E, sp vs H Q E → vs.length = ps.length
  run : ∀ (A : Around) (outer : List Env) (s : Shared) (H : Hp) (args : Args) (us : List Value) (vs : List V) (Q : VK) (E : XK), Room k A → Env0 P w K mg base A outer s H → BindsTo s fd args (ps.zip us) → Vals vs us → sp vs H Q E →
    codeAny (model P w) A (.call (.ref f) args) (CR CX outer P w H s Q E) s
theorem Env0.make {P : Program} {w : World} {K : PySem.W.Frag} {mg : Str → Option Value} {base : Heap} {A : Around} {outer : List Env} {s : Shared} {H : Hp} (e : Env0 P w K mg base A outer s H) (C : Addr) (us : List Value) (kw : List (Str × Value)) :
    Env0 P w K mg base (A.under (.builtin "type.__call__" ⟨.ref C :: us, kw⟩)) outer s H := ⟨by first | exact e.frames | (simpa [Around.under, Code.envs, Code.isFrame, pushEnvs] using e.frames), e.mod, e.bs, e.bsz, e.funs, e.frf, e.hok, e.bare⟩
section
variable {X : Cx} {pins : List (Addr × Obj)} {σ : St} {H : Hp} {s s' : Shared}
theorem Inv.env0 (I : Inv X pins σ H s) : Env0 X.prog X.w X.K X.mg X.base X.A X.stack s H :=
  ⟨I.ok.frames, I.ok.mod, I.bs, Nat.le_trans I.ok.bsz I.sz, I.stack, I.stkFree, I.hok, I.bare⟩
theorem Inv.after {Q : VK} {u : Value} (I : Inv X pins σ H s) (h : CE X.stack X.prog X.w H s Q u s') : EP X pins σ Q u s' := by
  obtain ⟨v, H', os, bare, un, hok, r, q⟩ := h
  obtain ⟨hh, g, d, t, os'⟩ := s'
  obtain rfl : os' = s.os := os
  exact ⟨v, H', I.call (h' := hh) (g' := g) (d' := d) (t' := t) (ch := []) un hok bare (fun b z => absurd z (by simp)), r, q⟩
end

noncomputable def tCall (sp : Sp) (dvs : List V) (E : XK) (t : TA) : TE := fun σ H Q => t σ H fun vs H1 => sp (vs ++ dvs) H1 Q E
noncomputable def Binds (K : PySem.W.Frag) (fd : FuncData) (ps : List Str) (ds : List Value) : Prop :=
  ∀ (s : Shared) (us : List Value), K.In s.heap → (us ++ ds).length = ps.length → BindsTo s fd ⟨us, []⟩ (ps.zip (us ++ ds))
theorem Binds.all {K : PySem.W.Frag} {fd : FuncData} {ps : List Str} (h : ∀ us : List Value, us.length = ps.length → bindArgs fd ⟨us, []⟩ = pure (ps.zip us)) : Binds K fd ps [] := fun s us _ hl => by
  rw [List.append_nil] at hl ⊢
  exact .of_eq (h us hl)

noncomputable def Passes (CX : CXT) (X : Cx) (E : XK) : Prop := ∀ (pins : List (Addr × Obj)) (σ : St) (H : Hp) (s : Shared) (e : Value) (s' : Shared), Inv X pins σ H s → CX X.stack H s E e s' → X.xe e s'

section
variable {X : Cx} {CX : CXT} {k : Nat} {f C : Addr} {fd : FuncData} {ps : List Str} {sp : Sp} {dvs : List V} {ds : List Value} {E : XK} {x m : Str} {p pos apos : Pos} {e o : Expr} {es : List Expr} {ta : TE} {t : TA}

theorem run_fn {pins : List (Addr × Obj)} {σ : St} {H : Hp} {s : Shared} {Q : VK} {us : List Value} {vs : List V} (F : FnOk X.prog X.w X.K X.mg X.base CX k f fd ps sp) (hr : Room k X.A) (hb : Binds X.K fd ps ds) (hd : Vals dvs ds) (hx : Passes CX X E)
    (I : Inv X pins σ H s) (r : Vals vs us) (h : sp (vs ++ dvs) H Q E) : wpAny (model X.prog X.w) X.A (call (.ref f) us) (EP X pins σ Q) X.xe s := by
  have r2 : Vals (vs ++ dvs) (us ++ ds) := r.append hd
  have hl : (us ++ ds).length = ps.length := by rw [← r2.length]; exact F.len _ _ _ _ h
  refine wpAny_call (codeAny_mono (F.run X.A X.stack s H ⟨us, []⟩ (us ++ ds) (vs ++ dvs) Q E hr I.env0 (hb s us I.kIn hl) r2 h) fun r s' hq => ?_)
  cases r with
  | error e => exact hx pins σ H s e s' I hq
  | ok fl =>
    cases fl with
    | ret u => exact I.after hq
    | next => exact False.elim hq
    | brk => exact False.elim hq
    | cont => exact False.elim hq

theorem pe_call (F : FnOk X.prog X.w X.K X.mg X.base CX k f fd ps sp) (hr : Room k X.A) (hg : Gl X x) (hm : X.mg x = some (.ref f)) (hk : PySem.W.keepIn X.K (.ref f) = true) (hb : Binds X.K fd ps ds) (hd : Vals dvs ds) (hx : Passes CX X E)
    (ha : PA X (e :: es) t) (hdb : (x == ("__debug__" : Str)) = false := by decide) (he : starEach (e :: es) X.env = (false, eval e X.env) :: starEach es X.env := by rfl) (hpl : (backTo pos (starEach es X.env)).any (·.1) = false := by rfl) :
    PE X (.Call (.Name x p) (e :: es) [] pos) (tCall sp dvs E t) := by
  intro pins s σ H Q I h
  refine wpAny_Call_Name_kw (ld_glob I hg hm ?_ hdb)
  refine PySem.W.callWith_K (h₀ := X.base) I.ok.mod.kin hk (thn (ha pos pins s σ H _ I h) fun us s1 ⟨vs, H1, I1, r, q⟩ => ⟨I1.kIn, ?_⟩) he hpl
  exact run_fn F hr hb hd hx I1 r q
structure Mk (K : PySem.W.Frag) (C f : Addr) : Prop where
  makes : PySem.W.makesIn K C = true
  init : PySem.W.findIn K (.ref C) "__init__" = some (some (.ref f))
  fn : PySem.W.isFn K (.ref f) = true
  kp : PySem.W.keepIn K (.ref C) = true

end

section
variable {X : Cx} {CX : CXT} {k : Nat} {f C : Addr} {fd : FuncData} {ps ks : List Str} {sp : Sp} {E : XK} {x m : Str} {p pos apos kpos : Pos} {e o : Expr} {es : List Expr} {kws : List Keyword} {te ta : TE} {t tk : TA} {nm : Option Str}
structure KBinds (K : PySem.W.Frag) (fd : FuncData) (ps ks : List Str) (g : List Value → List Value → List Value) (gV : List V → List V → List V) : Prop where
  to : ∀ (s : Shared) (us ws : List Value), K.In s.heap → (g us ws).length = ps.length → BindsTo s fd ⟨us, ks.zip ws⟩ (ps.zip (g us ws))
  rel : ∀ {vs : List V} {us : List Value} {zs : List V} {ws : List Value}, Vals vs us → Vals zs ws → Vals (gV vs zs) (g us ws)
variable {g : List Value → List Value → List Value} {gV : List V → List V → List V}
end

structure FnScope (N P : List Str) (sc : Scope) : Prop where
  kind : sc.kind = .function
  co : sc.isCoroutine = false
  gen : sc.isGenerator = false
  nd : N.Nodup
  pre : N.take P.length = P
  par : ∀ x ∈ P, sc.names.lookup x = some .local ∨ sc.names.lookup x = some .cell
  nofree : ∀ y ∈ sc.names, y.2 ≠ .free

theorem bindL_out {kindOf : Str → Option NameKind} {x : Str} : ∀ {binds : List (Str × Value)} {m : Str → Option Value}, (∀ v, (x, v) ∉ binds) → bindL kindOf binds m x = m x
  | [], _, _ => rfl
  | (n, v) :: r, m, h => by
    unfold bindL
    rw [bindL_out fun w hw => h w (List.mem_cons_of_mem _ hw)]
    split
    · have : x ≠ n := by rintro rfl; exact h v List.mem_cons_self
      simp [this]
    · rfl
theorem bindC_out {kindOf : Str → Option NameKind} {x : Str} : ∀ {binds : List (Str × Value)} {m : Str → Option Value}, (∀ v, (x, v) ∉ binds) → bindC kindOf binds m x = m x
  | [], _, _ => rfl
  | (n, v) :: r, m, h => by
    unfold bindC
    rw [bindC_out fun w hw => h w (List.mem_cons_of_mem _ hw)]
    split
    · rfl
    · have : x ≠ n := by rintro rfl; exact h v List.mem_cons_self
      simp [this]
theorem bindL_get {kindOf : Str → Option NameKind} {x : Str} {v : Value} : ∀ {P : List Str} {vs : List Value} {i : Nat} {m : Str → Option Value}, P.Nodup → P[i]? = some x → vs[i]? = some v → kindOf x = some .local →
    bindL kindOf (P.zip vs) m x = some v
  | [], _, _, _, _, h, _, _ => by simp at h
  | _ :: _, [], _, _, _, _, h, _ => by simp at h
  | p :: P, w :: vs, 0, m, nd, h1, h2, hk => by
    simp at h1 h2; subst h1; subst h2
    show bindL kindOf ((p, w) :: P.zip vs) m p = _
    unfold bindL
    rw [bindL_out fun v hv => (List.nodup_cons.mp nd).1 (List.of_mem_zip hv).1, if_pos hk]
    simp
  | p :: P, w :: vs, i + 1, m, nd, h1, h2, hk => by
    show bindL kindOf ((p, w) :: P.zip vs) m x = _
    unfold bindL
    exact bindL_get (i := i) (List.nodup_cons.mp nd).2 (by simpa using h1) (by simpa using h2) hk
theorem bindC_get {kindOf : Str → Option NameKind} {x : Str} {v : Value} : ∀ {P : List Str} {vs : List Value} {i : Nat} {m : Str → Option Value}, P.Nodup → P[i]? = some x → vs[i]? = some v → kindOf x ≠ some .local →
    bindC kindOf (P.zip vs) m x = some v
  | [], _, _, _, _, h, _, _ => by simp at h
  | _ :: _, [], _, _, _, _, h, _ => by simp at h
  | p :: P, w :: vs, 0, m, nd, h1, h2, hk => by
    simp at h1 h2; subst h1; subst h2
    show bindC kindOf ((p, w) :: P.zip vs) m p = _
    unfold bindC
    rw [bindC_out fun v hv => (List.nodup_cons.mp nd).1 (List.of_mem_zip hv).1, if_neg hk]
    simp
  | p :: P, w :: vs, i + 1, m, nd, h1, h2, hk => by
    show bindC kindOf ((p, w) :: P.zip vs) m x = _
    unfold bindC
    exact bindC_get (i := i) (List.nodup_cons.mp nd).2 (by simpa using h1) (by simpa using h2) hk

noncomputable def start (N : List Str) (vs : List V) : St := vs.map some ++ List.replicate (N.length - vs.length) none

noncomputable def cxOf (CX : CXT) (P : Program) (w : World) (K : PySem.W.Frag) (mg : Str → Option Value) (base : Heap) (N : List Str) (qual : Str) (scope : Scope) (f : Addr) (cd : Value) (A : Around) (outer : List Env) (s : Shared) (H : Hp) (E : XK) : Cx where
  prog := P
  w := w
  K := K
  mg := mg
  base := base
  A := A.deeper (envOfC qual scope s.heap.objs.size f cd)
  N := N
  s₀ := s
  H₀ := H
  env := envOfC qual scope s.heap.objs.size f cd
  outer := outer
  stack := envOfC qual scope s.heap.objs.size f cd :: outer
  ex := []
  calm := true
  fn := fun _ => true
  pn := []
  xe := fun e s' => wpAny (model P w) (A.deeper (envOfC qual scope s.heap.objs.size f cd)) (leaving (envOfC qual scope s.heap.objs.size f cd) e) (fun _ s'' => CX outer H s E e s'') (fun e' s'' => CX outer H s E e' s'') s'

theorem cell_has {sc : Scope} {n : Nat} {x : Str} (h : sc.names.lookup x = some .cell) : ∃ c, (cellsFrom n sc.names []).lookup x = some c := by
  have q := PySem.W.cellsFrom_some sc.names n [] (.inl h)
  exact Option.isSome_iff_exists.mp q

theorem inv_start {CX : CXT} {P : Program} {w : World} {K : PySem.W.Frag} {mg : Str → Option Value} {base : Heap} {N ps : List Str} {qual : Str} {scope : Scope} {f : Addr} {cd : Value} {A : Around} {outer : List Env} {s s1 : Shared} {H : Hp} {E : XK} {us : List Value} {vs : List V}
    (S : FnScope N ps scope) (hd : A.handled = none) (e0 : Env0 P w K mg base A outer s H) (hl : vs.length = ps.length) (r : Vals vs us)
    (x : InCallC s s.heap.objs.size (bindL (envOfC qual scope s.heap.objs.size f cd).kindOf (ps.zip us) fun _ => none) (cellsFrom (s.heap.objs.size + 1) scope.names []) (bindC (envOfC qual scope s.heap.objs.size f cd).kindOf (ps.zip us) fun _ => none) s1) :
    Inv (cxOf CX P w K mg base N qual scope f cd A outer s H E) [] (start N vs) H s1 := by
  have hpl : ps.length ≤ N.length := by have := congrArg List.length S.pre; rw [List.length_take] at this; omega
  obtain ⟨h1, tk, rfl, hk⟩ := x.done
  have noA : ∀ b : Addr, b ∉ (cxOf CX P w K mg base N qual scope f cd A outer s H E).ex := fun b z => absurd (show b ∈ ([] : List Addr) from z) (by simp)
  refine ⟨⟨e0.mod, S.kind, rfl, rfl, Nat.le_refl _, fun y z c h1 h2 => ?_, fun y hy => ?_, fun y c _ h => ?_, fun _ => hd, Around.frames_deeper e0.frames, .inr ⟨rfl, rfl⟩, fun b z => absurd z (noA b), e0.bs, e0.bsz, fun b _ _ => noA b, fun b z => absurd z (noA b), e0.funs, e0.frf⟩,
    rfl, e0.bare, Un.kept hk, ⟨_, x.toInCall.ns, fun i y v h1 h2 h3 => ?_⟩, fun y c h => ⟨_, x.cell y c h⟩, e0.hok.fresh (Nat.le_refl _), fun y c h => ?_, fun p hp => absurd (show p ∈ ([] : List (Addr × Obj)) from hp) (by simp), e0.hok.kept hk, ?_⟩
  · exact name_of_addr x.apart (PySem.mem_of_lookup h1) (PySem.mem_of_lookup h2)
  · have hy : scope.names.lookup y = some .cell ∨ scope.names.lookup y = some .free := hy
    rcases hy with hy | hy
    · exact cell_has hy
    · exact absurd rfl (S.nofree _ (PySem.mem_of_lookup hy))
  · exact Nat.le_of_lt (x.above y c (PySem.mem_of_lookup h))
  · have hi : i < vs.length := by
      unfold start at h2
      by_cases hi : i < vs.length
      · exact hi
      · rw [List.getElem?_append_right (by simpa using hi)] at h2
        rw [List.getElem?_replicate] at h2
        split at h2 <;> cases h2
    have ha : vs[i]? = some v := by
      unfold start at h2
      rw [List.getElem?_append_left (by simpa using hi), List.getElem?_map] at h2
      cases e : vs[i]? with
      | none => rw [e] at h2; cases h2
      | some a => rw [e] at h2; cases h2; rfl
    obtain ⟨u, hu, rv⟩ := r.get ha
    have hp : ps[i]? = some y := by
      rw [← S.pre, List.getElem?_take_of_lt (by omega)]; exact h1
    have ndP : ps.Nodup := by rw [← S.pre]; exact S.nd.sublist (List.take_sublist _ _)
    refine ⟨u, rv, ?_⟩
    rcases S.par y (List.mem_of_getElem? hp) with k | k
    · exact .inl ⟨k, bindL_get ndP hp hu k⟩
    · obtain ⟨c, e⟩ := cell_has (n := s.heap.objs.size + 1) k
      refine .inr ⟨.inl k, c, e, ?_⟩
      have q := x.cell y c e
      rw [bindC_get ndP hp hu (by show scope.names.lookup y ≠ _; rw [k]; decide)] at q
      exact q
  · exact e0.hok.fresh (Nat.le_of_lt (x.above y c (PySem.mem_of_lookup h)))
  · unfold start
    show _ = N.length
    rw [List.length_append, List.length_map, List.length_replicate]
    omega

theorem fn_of {CX : CXT} {P : Program} {w : World} {K : PySem.W.Frag} {mg : Str → Option Value} {base : Heap} {k : Nat} {f : Addr} {name qual : Str} {params : Arguments} {body : List Stmt} {scope : Scope} {dV kV doc pm cdv ct oc : Value} {an od : Option Addr}
    {osl : Array (Option Value)} {N ps : List Str} {sp : Sp} (lk : K.lookup f = some ⟨oc, od, .func (PySem.W.fnOf name qual params body scope dV kV doc pm an cdv ct), osl⟩) (hcd : PySem.W.codeIn K cdv qual = true) (S : FnScope N ps scope)
    (len : ∀ vs H Q E, sp vs H Q E → vs.length = ps.length)
    (hbody : ∀ (A : Around) (outer : List Env) (s : Shared) (H : Hp) (vs : List V) (Q : VK) (E : XK), Room k (A.deeper (envOfC qual scope s.heap.objs.size f cdv)) → sp vs H Q E →
      ∃ t, PSs (cxOf CX P w K mg base N qual scope f cdv A outer s H E) body t ∧ t { nx := fun _ H' => Q .non H', rt := Q } (start N vs) H) :
    FnOk P w K mg base CX (k + 1) f (PySem.W.fnOf name qual params body scope dV kV doc pm an cdv ct) ps sp := by
  refine ⟨len, fun A outer s H args us vs Q E hr e0 hb r hsp => ?_⟩
  have hl := len _ _ _ _ hsp
  have KX : K.In s.heap := e0.mod.kin.keeps fun b o e => (e0.bs b o e).1
  have lim : s.heap.NoLimit := e0.mod.nolimit.keeps fun b o e => (e0.bs b o e).1
  have hkind : ∀ y ∈ ps.zip us, scope.names.lookup y.1 = some .local ∨ (scope.names.lookup y.1 = some .cell ∧ ((cellsFrom (s.heap.objs.size + 1) scope.names []).lookup y.1).isSome = true) := fun ⟨n, v⟩ hy => by
    rcases S.par n (List.of_mem_zip hy).1 with q | q
    · exact .inl q
    · exact .inr ⟨q, PySem.W.cellsFrom_some _ _ _ (.inl q)⟩
  refine codeAny_call_function hr.depth (KX _ _ lk) rfl S.co S.gen rfl (PySem.W.codeRec_of KX hcd) (hb _ _ _ _ ?_)
  refine wpAny_newFunctionEnv_cells S.kind hkind fun env he s1 x => ?_
  subst he
  refine ⟨lim.keeps x.toInCall.keep, codeAny_func ?_⟩
  obtain ⟨t, ht, hq⟩ := hbody A outer s H vs Q E (hr.deeper _) hsp
  have I : Inv (cxOf CX P w K mg base N qual scope f cdv A outer s H E) [] (start N vs) H s1 := inv_start S hr.hd e0 hl r x
  refine wpAny_mono (ht [] s1 (start N vs) H _ I hq) (fun fl s' hs => ?_) fun e s' hs => hs
  have fin : ∀ {σ' : St} {H' : Hp} {v : V} {u : Value}, Inv (cxOf CX P w K mg base N qual scope f cdv A outer s H E) [] σ' H' s' → RelV v u → Q v H' → CE outer P w H s Q u s' :=
    fun {σ' H' v u} J rv q => ⟨v, H', J.os, J.bare, J.base, J.hok, rv, q⟩
  cases fl with
  | ret u =>
    obtain ⟨v, σ', H', J, rv, q⟩ := hs
    exact fin J rv q
  | next =>
    obtain ⟨σ', H', J, q⟩ := hs
    exact fin (v := V.non) (u := Value.none) J rfl q
  | brk =>
    obtain ⟨_, _, _, q⟩ := hs
    exact False.elim q
  | cont =>
    obtain ⟨_, _, _, q⟩ := hs
    exact False.elim q
end L2

namespace L2
open PySem PySem.Spec PyProof.Rows
section
variable {X : Cx} {x : Str} {p pos : Pos} {e : Expr} {es : List Expr} {t : TA} {id T : String} {r : List V → Hp → VK → Prop}

noncomputable def tCB (r : List V → Hp → VK → Prop) (t : TA) : TE := fun σ H Q => t σ H fun vs H1 => r vs H1 Q
theorem pe_callB (hc : CallR X (.builtin id) r) (hg : Gl X x) (hm : X.mg x = none) (hv : bootBuiltins x = some (.builtin id)) (ha : PA X (e :: es) t) (hn : x ≠ "__name__" := by decide) (hdb : (x == ("__debug__" : Str)) = false := by decide)
    (he : starEach (e :: es) X.env = (false, eval e X.env) :: starEach es X.env := by rfl) (hpl : (backTo pos (starEach es X.env)).any (·.1) = false := by rfl) : PE X (.Call (.Name x p) (e :: es) [] pos) (tCB r t) := by
  intro pins s σ H Q I h
  refine wpAny_Call_Name_kw (ld_blt I hg hm hv ?_ hn hdb)
  exact PyProof.Rows.callWith_builtin1 (thn (ha pos pins s σ H _ I h) fun us s1 ⟨vs, H1, I1, r1, q1⟩ => hc pins s1 σ H1 vs us Q I1 r1 q1) he hpl
end
end L2

namespace HT
open PySem PyProof.Rows

section
open PySem.SeqAt
open PySem.AutoSeq1 (wpAny_loadPart')
open PySem.MeetsSeq PySem.MeetsSeq2 PySem.MeetsSeq3

end

section
variable {prog : Program} {w : World} {A : Around} {E : Value → Shared → Prop} {s : Shared}

theorem cat_tup {t b : Addr} {vs ws : List Value} {Q : Value → Shared → Prop} (ht : IsTup s.heap t vs.toArray) (hb : IsTup s.heap b ws.toArray) (hv : vs ≠ [])
    (h1 : ws = [] → Q (.ref t) s) (h2 : ws ≠ [] → Q (.ref s.heap.objs.size) { s with heap := s.heap.push { cls := .type "tuple", data := .seq (vs ++ ws).toArray } })
    (hsz : vs.length + ws.length ≤ sizeLine) : wpAny (model prog w) A (binaryOp .Add (.ref t) (.ref b)) Q E s := by
  obtain ⟨⟨cls, dd, data, sl⟩, ho, hc, n, hd⟩ := id ht
  obtain ⟨⟨cls2, dd2, data2, sl2⟩, ho2, hc2, n2, hd2⟩ := id hb
  simp only at hc hd hc2 hd2
  subst hc hd hc2 hd2
  have e : vs.toArray ++ ws.toArray = (vs ++ ws).toArray := by simp
  by_cases hw : ws = []
  · exact concat_meets ⟨_, ho, rfl⟩ ⟨_, ho2, rfl⟩ noFill_tuple_add seq_tuple_add PySem.F.slot_tuple_add PySem.F.entry_tuple_add (PySem.F.args_tuple_add_2 _ _)
      (tuple_addW1 t b vs.toArray ws.toArray n n2 dd dd2 sl sl2 (by simpa using hv) (by simp [hw])) ⟨ho, ho2, h1 hw⟩
  · refine concat_meets ⟨_, ho, rfl⟩ ⟨_, ho2, rfl⟩ noFill_tuple_add seq_tuple_add PySem.F.slot_tuple_add PySem.F.entry_tuple_add (PySem.F.args_tuple_add_2 _ _)
      (tuple_addW2 t b vs.toArray ws.toArray n n2 dd dd2 sl sl2 (by simpa using hv) (by simpa using hw) (by rw [List.size_toArray, List.size_toArray]; exact hsz)) ⟨ho, ho2, ?_⟩
    rw [e]
    exact h2 hw

noncomputable def sIx (n d : Nat) : Option Int → Nat
  | none => d
  | some v => if v < 0 then (v + (n : Int)).toNat else min v.toNat n
theorem sIx_none (n d : Nat) : sIx n d none = d := rfl
theorem sIx_nat (n d k : Nat) : sIx n d (some (k : Int)) = min k n := by
  show (if (k : Int) < 0 then ((k : Int) + (n : Int)).toNat else min (k : Int).toNat n) = min k n
  rw [if_neg (by omega), Int.toNat_natCast]
theorem sIx_le (n d : Nat) (hd : d ≤ n) (o : Option Int) : sIx n d o ≤ n := by
  cases o with
  | none => exact hd
  | some v =>
    show (if v < 0 then (v + (n : Int)).toNat else min v.toNat n) ≤ n
    by_cases hv : v < 0
    · rw [if_pos hv]; omega
    · rw [if_neg hv]; exact Nat.min_le_right _ _
theorem clip_eq (v : Int) (n d : Nat) : (if v < 0 then max (v + (n : Int)) 0 else min v (n : Int)) = ((sIx n d (some v) : Nat) : Int) := by
  show (if v < 0 then max (v + (n : Int)) 0 else min v (n : Int)) = (((if v < 0 then (v + (n : Int)).toNat else min v.toNat n) : Nat) : Int)
  by_cases hv : v < 0
  · simp only [if_pos hv]; omega
  · simp only [if_neg hv]; omega
theorem adjust_gen (lo hi : Option Int) (n : Nat) : Builtin.Slice.sliceAdjust lo hi 1 (n : Int) = (((sIx n 0 lo : Nat) : Int), ((sIx n n hi : Nat) : Int)) := by
  have h1 : ¬ ((1 : Int) < 0) := by omega
  unfold Builtin.Slice.sliceAdjust
  simp only [h1, if_false]
  refine Prod.ext ?_ ?_
  · cases lo with
    | none => rfl
    | some v => exact clip_eq v n 0
  · cases hi with
    | none => rfl
    | some v => exact clip_eq v n n
theorem places_gen (i j : Nat) : Builtin.Slice.slicePlaces (i : Int) (j : Int) 1 = j - i := by
  unfold Builtin.Slice.slicePlaces
  have h1 : (1 : Int) > 0 := by omega
  simp only [h1, if_true, Int.ediv_one]
  split <;> omega
theorem slicePart_ {v : Value} {o : Option Int} {Q : Option Int → Shared → Prop} (p : IsPart v o) (h : Q o s) : wpAny (model prog w) A (Builtin.Slice.slicePartIndex v) Q E s := by
  cases p with
  | none => exact slicePart_none h
  | int i t => exact slicePart_int h
theorem sliceApplied_gen {sl : Addr} {vl vu : Value} {lo hi : Option Int} {n : Nat} {Q : Int × Int × Nat → Shared → Prop} (hs : s.heap.IsSliceOf sl vl vu .none) (pl : IsPart vl lo) (pu : IsPart vu hi)
    (h : Q (((sIx n 0 lo : Nat) : Int), 1, sIx n n hi - sIx n 0 lo) s) : wpAny (model prog w) A (Builtin.Slice.sliceApplied (.ref sl) (pure (n : Int))) Q E s := by
  obtain ⟨os, hos, hcs, hds⟩ := id hs
  unfold Builtin.Slice.sliceApplied Builtin.Slice.sliceFields
  refine wpAny_bind (wpAny_bind (wpAny_field hos hds (x := vl) rfl (wpAny_bind (wpAny_field hos hds (x := vu) rfl (wpAny_bind (wpAny_field hos hds (x := .none) rfl (wpAny_pure ?_)))))))
  refine wpAny_bind (slicePart_none ?_)
  show wpAny _ _ (if ((1 : Int) == 0) = true then _ else _) _ _ s
  rw [if_neg (by decide)]
  refine wpAny_bind (slicePart_ pl (wpAny_bind (slicePart_ pu (wpAny_bind (wpAny_pure ?_)))))
  show wpAny _ _ (match Builtin.Slice.sliceAdjust lo hi 1 (n : Int) with | (lo, hi) => pure (lo, (1 : Int), Builtin.Slice.slicePlaces lo hi 1)) _ _ s
  rw [adjust_gen lo hi n]
  show wpAny _ _ (pure (((sIx n 0 lo : Nat) : Int), (1 : Int), Builtin.Slice.slicePlaces ((sIx n 0 lo : Nat) : Int) ((sIx n n hi : Nat) : Int) 1)) _ _ s
  rw [places_gen]
  exact wpAny_pure h
theorem pick_gen (xs : Array Value) (i k : Nat) : ((List.range k).filterMap fun (m : Nat) => xs[((i : Int) + (m : Int) * 1).toNat]?).toArray = ((xs.toList.drop i).take k).toArray := by
  have e : (fun (m : Nat) => xs[((i : Int) + (m : Int) * 1).toNat]?) = fun m => xs[i + m]? := by
    funext m
    have : ((i : Int) + (m : Int) * 1).toNat = i + m := by omega
    rw [this]
  rw [e]
  have := pick_run xs i k
  rw [List.filterMap_map] at this
  have e2 : ((fun x => xs[x]?) ∘ fun x => i + x) = fun m => xs[i + m]? := rfl
  rw [e2] at this
  rw [this]

theorem getItem_tuple_cut {t sl : Addr} {items : Array Value} {vl vu : Value} {lo hi : Option Int} {Q : Value → Shared → Prop} (ht : IsTup s.heap t items) (hs : s.heap.IsSliceOf sl vl vu .none) (pl : IsPart vl lo) (pu : IsPart vu hi)
    (hw : ¬ (sIx items.size 0 lo = 0 ∧ sIx items.size items.size hi = items.size))
    (h : Q (.ref s.heap.objs.size) { s with heap := s.heap.push { cls := .type "tuple", data := .seq ((items.toList.drop (sIx items.size 0 lo)).take (sIx items.size items.size hi - sIx items.size 0 lo)).toArray } })
    (hsz : items.size ≤ sizeLine) : wpAny (model prog w) A (getItem (.ref t) (.ref sl)) Q E s := by
  have htake : sizeOk (.seq ((items.toList.drop (sIx items.size 0 lo)).take (sIx items.size items.size hi - sIx items.size 0 lo)).toArray) := by
    show ((items.toList.drop (sIx items.size 0 lo)).take (sIx items.size items.size hi - sIx items.size 0 lo)).toArray.size ≤ sizeLine
    rw [List.size_toArray, List.length_take, List.length_drop, Array.length_toList]
    omega
  have hj : sIx items.size items.size hi ≤ items.size := sIx_le _ _ (Nat.le_refl _) hi
  obtain ⟨os, hos, hcs, hds⟩ := id hs
  have hTs : s.TypeIs (.ref sl) "slice" := ⟨os, hos, hcs⟩
  unfold getItem
  try with_reducible refine wpAny_holding ?_
  first | refine wpAny_bind (wpAny_pure ?_) | skip
  refine wpAny_bind (wpAny_sequenceKey ht.typeIs (by decide) ?_)
  refine wpAny_bind (wpAny_callSpecial?_slot (name := Str.ofString "__getitem__") ht.typeIs PyProof.Rows.slot_tuple_getitem
    (wpAny_call_entry PyProof.Rows.slot_tuple_getitem ht.typeIs entry_tuple_getitem ?_ (args_tuple_getitem _ _)))
  show wpAny _ _ (Builtin.Tuple.tupleItemsOf (.ref t) >>= _) _ _ s
  refine wpAny_bind (tupleItemsOf_ ht ?_)
  refine wpAny_bind (wpAny_typeOf hTs ?_)
  rw [if_pos (by decide)]
  refine wpAny_bind (sliceApplied_gen hs pl pu ?_)
  have hno : ¬ ((((sIx items.size 0 lo : Nat) : Int) == 0 && (1 : Int) == 1 && (sIx items.size items.size hi - sIx items.size 0 lo) == items.size) = true) := by
    intro q
    rw [Bool.and_eq_true, Bool.and_eq_true] at q
    have q1 : ((sIx items.size 0 lo : Nat) : Int) = 0 := eq_of_beq q.1.1
    have q2 : sIx items.size items.size hi - sIx items.size 0 lo = items.size := eq_of_beq q.2
    exact hw ⟨by omega, by omega⟩
  show wpAny _ _ (if (((sIx items.size 0 lo : Nat) : Int) == 0 && (1 : Int) == 1 && (sIx items.size items.size hi - sIx items.size 0 lo) == items.size) = true then _ else _) _ _ s
  rw [if_neg hno, pick_gen]
  first
    | exact wpAny_bind (m := Builtin.Tuple.tupleExact _) (wpAny_newObj_type (wpAny_pure ⟨_, rfl, wpAny_pure h⟩) htake)
    | exact wpAny_bind (m := Builtin.Tuple.tupleExact _) (wpAny_newObj_type (wpAny_bind (wpAny_pure (wpAny_pure ⟨_, rfl, wpAny_pure h⟩))) htake)
    | exact wpAny_bind (wpAny_bind (m := Builtin.Tuple.tupleExact _) (wpAny_newObj_type (wpAny_pure (wpAny_pure ⟨_, rfl, wpAny_pure h⟩)) htake))
    | exact wpAny_bind (wpAny_bind (m := Builtin.Tuple.tupleExact _) (wpAny_newObj_type (wpAny_pure ⟨_, rfl, wpAny_pure h⟩) htake))
end
end HT

namespace L2
open PySem PySem.Spec PyProof.Rows

noncomputable abbrev TO := St → Hp → (Option Int → Hp → Prop) → Prop
noncomputable def PO (X : Cx) (e : Option Expr) (t : TO) : Prop :=
  ∀ (pins : List (Addr × Obj)) (s : Shared) (σ : St) (H : Hp) (Q : Option Int → Hp → Prop), Inv X pins σ H s → t σ H Q →
    wpAny (model X.prog X.w) X.A (evalPart e X.env) (fun u s' => ∃ o H', Inv X pins σ H' s' ∧ IsPart u o ∧ Q o H') X.xe s
noncomputable def tNoPart : TO := fun _ H Q => Q none H
noncomputable def tPart (t : TE) : TO := fun σ H Q => t σ H fun x H1 => ∃ i, x = .int i ∧ Q (some i) H1

section
variable {X : Cx} {e : Expr} {te : TE} {lo hi : Option Expr} {tl th : TO} {pos p2 : Pos}

theorem po_none : PO X none tNoPart := by
  intro pins s σ H Q I h
  rw [evalPart_none]
  exact wpAny_pure ⟨none, H, I, .none, h⟩
theorem po_some (h : PE X e te) : PO X (some e) (tPart te) := by
  intro pins s σ H Q I hw
  rw [evalPart_some]
  refine thn (h pins s σ H _ I hw) fun u s1 ⟨x, H1, I1, r1, q1⟩ => ?_
  obtain ⟨i, rfl, q⟩ := q1
  obtain ⟨t, rfl⟩ := r1
  exact ⟨some i, H1, I1, .int i t, q⟩

noncomputable def SlR (X : Cx) (r : V → Option Int → Option Int → Hp → VK → Prop) : Prop :=
  ∀ (pins : List (Addr × Obj)) (s : Shared) (σ : St) (H : Hp) (x : V) (v vl vu : Value) (lo hi : Option Int) (sl : Addr) (Q : VK), Inv X pins σ H s → RelV x v → s.heap.IsSliceOf sl vl vu .none → IsPart vl lo → IsPart vu hi → r x lo hi H Q →
    ∃ T id, typeLookup (.type T) "__getitem__" = pure (some (.builtin id)) ∧ s.TypeIs v T ∧ wpAny (model X.prog X.w) X.A (getItem v (.ref sl)) (EP X pins σ Q) X.xe s
theorem SlR.or {r r' : V → Option Int → Option Int → Hp → VK → Prop} (h : SlR X r) (h' : SlR X r') : SlR X (fun x lo hi H Q => r x lo hi H Q ∨ r' x lo hi H Q) := by
  intro pins s σ H x v vl vu lo hi sl Q I rx hs pl pu q
  rcases q with q | q
  · exact h pins s σ H x v vl vu lo hi sl Q I rx hs pl pu q
  · exact h' pins s σ H x v vl vu lo hi sl Q I rx hs pl pu q
noncomputable def tSl (r : V → Option Int → Option Int → Hp → VK → Prop) (te : TE) (tl th : TO) : TE := fun σ H Q => te σ H fun x H1 => tl σ H1 fun l H2 => th σ H2 fun u H3 => r x l u H3 Q
theorem pe_slice {r : V → Option Int → Option Int → Hp → VK → Prop} (hr : SlR X r) (he : PE X e te) (hl : PO X lo tl) (hu : PO X hi th) : PE X (.Subscript e (.Slice lo hi none p2) pos) (tSl r te tl th) := by
  intro pins s σ H Q I h
  refine Subscript_ (thn (he pins s σ H _ I h) fun v s1 ⟨x, H1, I1, r1, q1⟩ => ?_)
  refine wpAny_Slice (thn (hl pins s1 σ H1 _ I1 q1) fun vl s2 ⟨l, H2, I2, pl, q2⟩ => thn (hu pins s2 σ H2 _ I2 q2) fun vu s3 ⟨u, H3, I3, pu, q3⟩ => ?_)
  rw [evalPart_none]
  refine wpAny_pure ?_
  have I4 : Inv X pins σ H3 { s3 with heap := s3.heap.push { cls := .type "slice", data := .fields #[vl, vu, .none] } } := I3.kept (t' := s3.toks) fun b ob q => Heap.get?_push_of_some _ q
  obtain ⟨T, id, hT, ht, hg⟩ := hr pins { s3 with heap := s3.heap.push { cls := .type "slice", data := .fields #[vl, vu, .none] } } σ H3 x v vl vu l u s3.heap.objs.size Q I4 r1 (Heap.IsSliceOf.new ..) pl pu q3
  show wpAny (model X.prog X.w) X.A (subscriptTail e (.Slice lo hi none p2) v (.ref s3.heap.objs.size)) (EP X pins σ Q) X.xe { s3 with heap := s3.heap.push { cls := .type "slice", data := .fields #[vl, vu, .none] } }
  exact tail_any (ops := [.ref s3.heap.objs.size, v]) ht hT hg (by with_unfolding_all rfl)

noncomputable def cutV (xs : List V) (lo hi : Option Int) : List V := (xs.drop (HT.sIx xs.length 0 lo)).take (HT.sIx xs.length xs.length hi - HT.sIx xs.length 0 lo)
theorem cutV_length (xs : List V) (lo hi : Option Int) : (cutV xs lo hi).length ≤ xs.length := by
  unfold cutV
  rw [List.length_take, List.length_drop]
  omega
noncomputable def rSlT (K : PySem.W.Frag) : V → Option Int → Option Int → Hp → VK → Prop := fun x lo hi H Q => ∃ a xs, x = .ref a ∧ SqT K H a xs ∧
  ¬ (HT.sIx xs.length 0 lo = 0 ∧ HT.sIx xs.length xs.length hi = xs.length) ∧ ∀ p, H p = none → Q (.ref p) (upd H p (.tup (cutV xs lo hi)))
theorem sl_tup : SlR X (rSlT X.K) := by
  intro pins s σ H x v vl vu lo hi sl Q I rx hs pl pu h
  obtain ⟨a, xs, rfl, hx, hw, q⟩ := h
  cases rx
  obtain ⟨its, r, ht, hz⟩ := I.tuple hx
  have hlen : its.toArray.size = xs.length := by rw [List.size_toArray]; exact r.length.symm
  refine ⟨"tuple", _, PyProof.Rows.slot_tuple_getitem.lookup, ht.typeIs, ?_⟩
  refine HT.getItem_tuple_cut ht hs pl pu (by rw [hlen]; exact hw) ?_ (by rw [hlen]; exact hz)
  rw [hlen]
  refine ⟨.ref s.heap.objs.size, _, I.laid (t' := s.toks) (o := .tup (cutV xs lo hi)) (fun b ob q => Heap.get?_push_of_some _ q) (Nat.le_refl _) ?_, rfl, q _ (I.hok.fresh (Nat.le_refl _))⟩
  exact ⟨Nat.le_trans (cutV_length xs lo hi) hz, _, (r.drop (HT.sIx xs.length 0 lo)).take (HT.sIx xs.length xs.length hi - HT.sIx xs.length 0 lo), IsTup.new _ _⟩

noncomputable def rCatT (K : PySem.W.Frag) : R2 := fun x y H Q => ∃ a b xs ys, x = .ref a ∧ y = .ref b ∧ SqT K H a xs ∧ SqT K H b ys ∧ xs ≠ [] ∧ xs.length + ys.length ≤ sizeLine ∧
  (ys = [] → Q (.ref a) H) ∧ (ys ≠ [] → ∀ p, H p = none → Q (.ref p) (upd H p (.tup (xs ++ ys))))
theorem Vals.nil_iff {xs : List V} {us : List Value} (r : Vals xs us) : us = [] ↔ xs = [] := by
  cases r with
  | nil => simp
  | cons _ _ => simp
theorem op_catT : OpR X (binaryOp .Add) (rCatT X.K) := by
  intro pins s σ H x y v u Q I rx ry h
  obtain ⟨a, b, xs, ys, rfl, rfl, ha, hb, hx, hz, q1, q2⟩ := h
  cases rx
  cases ry
  obtain ⟨its, r1, p1, _⟩ := I.tuple ha
  obtain ⟨its2, r2, p2, _⟩ := I.tuple hb
  refine HT.cat_tup p1 p2 (fun z => hx (r1.nil_iff.mp z)) (fun z => ⟨.ref a, H, I, rfl, q1 (r2.nil_iff.mp z)⟩) (fun z => ?_) (by rw [← r1.length, ← r2.length]; exact hz)
  refine ⟨.ref s.heap.objs.size, _, I.laid (t' := s.toks) (o := .tup (xs ++ ys)) (fun b ob q => Heap.get?_push_of_some _ q) (Nat.le_refl _) ?_, rfl, q2 (fun w => z (r2.nil_iff.mpr w)) _ (I.hok.fresh (Nat.le_refl _))⟩
  exact ⟨by rw [List.length_append]; exact hz, _, r1.append r2, IsTup.new _ _⟩
end
end L2

namespace L2
open PySem PySem.Spec PyProof.Rows

noncomputable def ixN (n : Nat) (i : Int) : Option Nat := if 0 ≤ i then (if i < n then some i.toNat else none) else if -(n : Int) ≤ i then some (i + n).toNat else none
noncomputable def atI {α : Type} (xs : List α) (i : Int) : Option α := (ixN xs.length i).bind fun j => xs[j]?
theorem ixN_seq {n : Nat} {i : Int} {j : Nat} (h : ixN n i = some j) : seqIndex? i n = some j ∧ j < n ∧ -(n : Int) ≤ i ∧ i < n := by
  unfold ixN at h
  by_cases h0 : 0 ≤ i
  · rw [if_pos h0] at h
    by_cases h1 : i < n
    · rw [if_pos h1] at h
      have e : i.toNat = j := Option.some.inj h
      exact ⟨by rw [seqIndex_of h0 h1, e], by omega, by omega, h1⟩
    · rw [if_neg h1] at h; cases h
  · rw [if_neg h0] at h
    by_cases h1 : -(n : Int) ≤ i
    · rw [if_pos h1] at h
      have e : (i + n).toNat = j := Option.some.inj h
      exact ⟨by rw [seqIndex_neg (by omega) h1, e], by omega, h1, by omega⟩
    · rw [if_neg h1] at h; cases h
theorem atI_get {α : Type} {xs : List α} {i : Int} {v : α} (h : atI xs i = some v) : ∃ j, seqIndex? i xs.length = some j ∧ xs[j]? = some v ∧ j < xs.length ∧ -(xs.length : Int) ≤ i ∧ i < xs.length := by
  unfold atI at h
  cases e : ixN xs.length i with
  | none => rw [e] at h; cases h
  | some j =>
    rw [e] at h
    obtain ⟨h1, h2, h3, h4⟩ := ixN_seq e
    exact ⟨j, h1, h, h2, h3, h4⟩
theorem atI_nat {α : Type} {xs : List α} {j : Nat} {v : α} (h : xs[j]? = some v) : atI xs (j : Int) = some v := by
  have hj : j < xs.length := (List.getElem?_eq_some_iff.mp h).1
  have e : ixN xs.length (j : Int) = some j := by
    unfold ixN
    rw [if_pos (by omega), if_pos (by omega)]; simp
  unfold atI; rw [e]; exact h
noncomputable def PlainIx (b : Expr) : Prop := ∀ o i, subscripted b false o i = operate [o, i] (getItem o i)
noncomputable def IxR (X : Cx) (r : R2) : Prop :=
  ∀ (value slice : Expr) (pins : List (Addr × Obj)) (s : Shared) (σ : St) (H : Hp) (x y : V) (v u : Value) (Q : VK), Inv X pins σ H s → RelV x v → RelV y u → r x y H Q →
    subscripted slice false v u = operate [v, u] (getItem v u) → wpAny (model X.prog X.w) X.A (subscriptTail value slice v u) (EP X pins σ Q) X.xe s
noncomputable def MtR (X : Cx) (id : String) (r : V → List V → Hp → VK → Prop) : Prop :=
  ∀ (pins : List (Addr × Obj)) (s : Shared) (σ : St) (H : Hp) (x : V) (xs : List V) (v : Value) (us : List Value) (Q : VK), Inv X pins σ H s → RelV x v → Vals xs us → r x xs H Q →
    wpAny (model X.prog X.w) X.A (call (.builtin id) (v :: us)) (EP X pins σ Q) X.xe s
section
variable {X : Cx} {a b : Expr} {ta tb : TE} {pos : Pos}
theorem IxR.or {r r' : R2} (h : IxR X r) (h' : IxR X r') : IxR X (fun x y H Q => r x y H Q ∨ r' x y H Q) := by
  intro value slice pins s σ H x y v u Q I rx ry q hs
  rcases q with q | q
  · exact h value slice pins s σ H x y v u Q I rx ry q hs
  · exact h' value slice pins s σ H x y v u Q I rx ry q hs
theorem pe_ix {r : R2} (hr : IxR X r) (ha : PE X a ta) (hb : PE X b tb) (hs : PlainIx b) : PE X (.Subscript a b pos) (tOp r ta tb) := by
  intro pins s σ H Q I h
  exact Subscript_ (binT ha hb I h fun v u s2 x y H2 I2 rx ry q => hr a b pins s2 σ H2 x y v u Q I2 rx ry q (hs _ _))

noncomputable def rIxL (K : PySem.W.Frag) : R2 := fun x y H Q => ∃ p xs i v, x = .ref p ∧ y = .int i ∧ SqL K H p xs ∧ atI xs i = some v ∧ Q v H
noncomputable def rIxT (K : PySem.W.Frag) : R2 := fun x y H Q => ∃ p xs i v, x = .ref p ∧ y = .int i ∧ SqT K H p xs ∧ atI xs i = some v ∧ Q v H
noncomputable def rIxS : R2 := fun x y H Q => ∃ z i c, x = .str z ∧ y = .int i ∧ z.length ≤ sizeLine ∧ atI z.cps.toList i = some c ∧ Q (.str ⟨#[c]⟩) H
theorem ix_list : IxR X (rIxL X.K) := by
  intro value slice pins s σ H x y v u Q I rx ry h hs
  obtain ⟨p, xs, i, z, rfl, rfl, hq, he, q⟩ := h
  cases rx
  obtain ⟨t, rfl⟩ := ry
  obtain ⟨its, r, pl, hz⟩ := I.list hq
  obtain ⟨j, h1, h2, h3, h4, h5⟩ := atI_get he
  obtain ⟨w, ew, rw'⟩ := r.get h2
  have hl := r.length
  have hn := line63
  have fin : EP X pins σ Q w s := ⟨z, H, I, rw', q⟩
  by_cases h0 : 0 ≤ i
  · have hj : i.toNat = j := by
      rw [seqIndex_of h0 h5] at h1
      exact Option.some.inj h1
    exact item_listR pl.isList h0 (by omega) (by rw [hj]; simpa using ew) fin hs
  · have hj : (i + (its.toArray.size : Int)).toNat = j := by
      rw [seqIndex_neg (by omega) h4] at h1
      rw [List.size_toArray, ← hl]
      exact Option.some.inj h1
    exact subscriptTail_builtinR (x := w) pl.isList.typeIs slot_list_getitem.lookup
      (wpAny_getItem_list_neg (Q := fun r s' => r = w ∧ EP X pins σ Q r s') pl.isList (by omega) (by rw [List.size_toArray] <;> omega) (by omega) (by rw [hj]; simpa using ew) ⟨rfl, fin⟩) hs
theorem ix_tup : IxR X (rIxT X.K) := by
  intro value slice pins s σ H x y v u Q I rx ry h hs
  obtain ⟨p, xs, i, z, rfl, rfl, hq, he, q⟩ := h
  cases rx
  obtain ⟨t, rfl⟩ := ry
  obtain ⟨its, r, pl, hz⟩ := I.tuple hq
  obtain ⟨j, h1, h2, h3, h4, h5⟩ := atI_get he
  obtain ⟨w, ew, rw'⟩ := r.get h2
  have hl := r.length
  have hn := line63
  have fin : EP X pins σ Q w s := ⟨z, H, I, rw', q⟩
  exact subscriptTail_builtinR (x := w) pl.typeIs slot_tuple_getitem.lookup
    (getItem_tuple (j := j) (Q := fun r s' => r = w ∧ EP X pins σ Q r s') pl (by omega) (by omega) (by rw [List.size_toArray, ← hl]; exact h1) (by simpa using ew) ⟨rfl, fin⟩) hs
theorem ix_str : IxR X rIxS := by
  intro value slice pins s σ H x y v u Q I rx ry h hs
  obtain ⟨z, i, c, rfl, rfl, hz, he, q⟩ := h
  obtain ⟨t, rfl⟩ := rx
  obtain ⟨t', rfl⟩ := ry
  obtain ⟨j, h1, h2, h3, h4, h5⟩ := atI_get he
  have hl : z.cps.toList.length = z.length := by simp [Str.length]
  rw [hl] at h1 h4 h5
  have hn := line63
  exact tail_any (typeIs_str s z t) slot_str_getitem.lookup (getItem_str (c := c) (by
    have e1 : decide (i < -(2 ^ 63 : Int)) = false := decide_eq_false (by omega)
    have e2 : decide (i ≥ 2 ^ 63) = false := decide_eq_false (by omega)
    rw [e1, e2, Bool.or_false]) (by rw [h1]; simpa using h2) ⟨.str ⟨#[c]⟩, H, I.tok _, ⟨_, rfl⟩, q⟩) hs
noncomputable def rIx (K : PySem.W.Frag) : R2 := fun x y H Q => rIxL K x y H Q ∨ rIxT K x y H Q ∨ rIxS x y H Q
theorem ix_seq : IxR X (rIx X.K) := ix_list.or (ix_tup.or ix_str)

theorem mapSeq_set (its : List Value) (n j : Nat) (u : Value) : Obj.mapSeq (·.setIfInBounds j u) { cls := .type "list", data := .seq its.toArray n } = { cls := .type "list", data := .seq (its.set j u).toArray n } := by
  simp [Obj.mapSeq]
theorem Inv.lst {pins : List (Addr × Obj)} {σ : St} {H : Hp} {s : Shared} {p : Addr} {xs : List V} (I : Inv X pins σ H s) (h : H p = some (.lst xs)) :
    ∃ (its : List Value) (n : Nat), Vals xs its ∧ s.heap.get? p = some { cls := .type "list", data := .seq its.toArray n } ∧ xs.length ≤ sizeLine := by
  obtain ⟨z, its, n, r, e⟩ := I.hok p _ h
  exact ⟨its, n, r, e, z⟩
theorem Inv.lstUpd {pins : List (Addr × Obj)} {σ : St} {H : Hp} {s : Shared} {p : Addr} {xs ys : List V} {its its' : List Value} {n n' : Nat} {f : Obj → Obj} (I : Inv X pins σ H s) (h : H p = some (.lst xs))
    (ho : s.heap.get? p = some { cls := .type "list", data := .seq its.toArray n }) (hf : f { cls := .type "list", data := .seq its.toArray n } = { cls := .type "list", data := .seq its'.toArray n' }) (r : Vals ys its') (hz : ys.length ≤ sizeLine) (t : Nat) :
    Inv X pins σ (upd H p (.lst ys)) { s with heap := s.heap.update p f, toks := t } := by
  have e : (s.heap.update p f).get? p = some { cls := .type "list", data := .seq its'.toArray n' } := by
    rw [Heap.get?_update_self f ho (by rw [hf] <;> rfl), hf]
  refine I.write (x := p) (e := p) (by rw [h]; trivial) (.inl rfl) (fun b u hb q => (Heap.get?_update_other _ _ (Ne.symm hb)).trans q) ⟨_, e⟩ ?_
  exact ⟨hz, its', n', r, e⟩
noncomputable def rSetL : V → V → V → Hp → (Hp → Prop) → Prop := fun o i v H Q => ∃ p xs k j, o = .ref p ∧ i = .int k ∧ H p = some (.lst xs) ∧ ixN xs.length k = some j ∧ Q (upd H p (.lst (xs.set j v)))
theorem set_list : PSet X rSetL := by
  intro pins s σ H o i v ov iv u Q I ro ri rv h
  obtain ⟨p, xs, k, j, rfl, rfl, hp, hj, q⟩ := h
  cases ro
  obtain ⟨t, rfl⟩ := ri
  obtain ⟨its, n, r, ho, hz⟩ := I.lst hp
  obtain ⟨h1, h2, h3, h4⟩ := ixN_seq hj
  have hl := r.length
  have hn := line63
  have I' : Inv X pins σ (upd H p (.lst (xs.set j v))) { s with heap := s.heap.update p (Obj.mapSeq (·.setIfInBounds j u)) } :=
    I.lstUpd hp ho (mapSeq_set its n j u) (r.set rv j) (by rw [List.length_set]; exact hz) s.toks
  by_cases h0 : 0 ≤ k
  · have hk : k.toNat = j := by
      rw [seqIndex_of h0 h4] at h1
      exact Option.some.inj h1
    exact PySem.W.ki_setAt ho h0 (by omega) (by rw [List.size_toArray, ← hl]; exact h4) (by rw [hk]; exact ⟨_, I', q⟩)
  · have hk : (k + (its.toArray.size : Int)).toNat = j := by
      rw [seqIndex_neg (by omega) h3] at h1
      rw [List.size_toArray, ← hl]
      exact Option.some.inj h1
    exact PySem.W.ki_setBack ho (by omega) (by rw [List.size_toArray, ← hl]; exact h3) (by omega) (by rw [hk]; exact ⟨_, I', q⟩)

theorem slice_bounds (lo hi : Option Int) (n : Nat) : (sliceBounds lo hi none n).1 = ((HT.sIx n 0 lo : Nat) : Int) ∧ (sliceBounds lo hi none n).2.1 = ((HT.sIx n n hi : Nat) : Int) ∧ (sliceBounds lo hi none n).2.2 = 1 := by
  refine ⟨?_, ?_, rfl⟩
  · cases lo with
    | none => simp [sliceBounds, HT.sIx]
    | some i =>
      simp only [sliceBounds, HT.sIx, Option.getD_none, show (1 : Int) > 0 by decide, if_true]
      by_cases h : i < 0
      · simp only [h, if_true] <;> omega
      · simp only [h, if_false] <;> omega
  · cases hi with
    | none => simp [sliceBounds, HT.sIx]
    | some i =>
      simp only [sliceBounds, HT.sIx, Option.getD_none, show (1 : Int) > 0 by decide, if_true]
      by_cases h : i < 0
      · simp only [h, if_true] <;> omega
      · simp only [h, if_false] <;> omega
theorem slicePick_cut (its : List Value) (lo hi : Option Int) : slicePick its.toArray lo hi none = ((its.drop (HT.sIx its.length 0 lo)).take (HT.sIx its.length its.length hi - HT.sIx its.length 0 lo)).toArray := by
  obtain ⟨h1, h2, h3⟩ := slice_bounds lo hi its.toArray.size
  unfold slicePick
  rw [h1, h2, h3]
  simp only [sliceRange_one, pick_run, List.size_toArray] <;> rfl
noncomputable def rSlL (K : PySem.W.Frag) : V → Option Int → Option Int → Hp → VK → Prop := fun x lo hi H Q => ∃ a xs, x = .ref a ∧ SqL K H a xs ∧ ∀ p, H p = none → Q (.ref p) (upd H p (.lst (cutV xs lo hi)))
theorem sl_list : SlR X (rSlL X.K) := by
  intro pins s σ H x v vl vu lo hi sl Q I rx hs pl pu h
  obtain ⟨a, xs, rfl, hx, q⟩ := h
  cases rx
  obtain ⟨its, r, ht, hz⟩ := I.list hx
  have hlen := r.length
  refine ⟨"list", _, slot_list_getitem.lookup, ht.isList.typeIs, ?_⟩
  refine wpAny_getItem_list_slice ht.isList hs pl pu .none (by simp) ?_ (by rw [List.size_toArray] <;> omega)
  rw [slicePick_cut, ← hlen]
  refine ⟨.ref s.heap.objs.size, _, I.laid (t' := s.toks) (o := .lst (cutV xs lo hi)) (fun b ob q => Heap.get?_push_of_some _ q) (Nat.le_refl _) ?_, rfl, q _ (I.hok.fresh (Nat.le_refl _))⟩
  exact ⟨Nat.le_trans (cutV_length xs lo hi) hz, _, 0, (r.drop (HT.sIx xs.length 0 lo)).take (HT.sIx xs.length xs.length hi - HT.sIx xs.length 0 lo), Heap.get?_push_size _ rfl⟩

noncomputable def flatV : V → Bool
  | .non => true
  | .bl _ => true
  | .int _ => true
  | .str _ => true
  | _ => false
noncomputable def eqV : V → V → Bool
  | .non, .non => true
  | .bl a, .bl b => a == b
  | .bl a, .int b => (if a then 1 else 0) == b
  | .int a, .bl b => a == (if b then 1 else 0)
  | .int a, .int b => a == b
  | .str a, .str b => a == b
  | _, _ => false
theorem eqAt_V {A : Around} {s : Shared} {y x : V} {u v : Value} (ry : RelV y u) (rx : RelV x v) (fy : flatV y = true) (fx : flatV x = true) : SeqAt.EqAt A s u v (eqV y x) := by
  cases y with
  | non =>
    cases ry
    cases x with
    | non => cases rx; exact SeqAt.EqAt.same _
    | bl b => cases rx; exact SeqAt.EqAt.none_bool b
    | int b => obtain ⟨t, rfl⟩ := rx; exact SeqAt.EqAt.none_int b t
    | str b => obtain ⟨t, rfl⟩ := rx; exact SeqAt.EqAt.none_str b t
    | _ => exact absurd (show false = true from fx) Bool.false_ne_true
  | bl a =>
    cases ry
    cases x with
    | non => cases rx; exact SeqAt.EqAt.bool_none a
    | bl b => cases rx; exact SeqAt.EqAt.bool_bool a b
    | int b => obtain ⟨t, rfl⟩ := rx; exact SeqAt.EqAt.bool_int a b t
    | str b => obtain ⟨t, rfl⟩ := rx; exact SeqAt.EqAt.bool_str a b t
    | _ => exact absurd (show false = true from fx) Bool.false_ne_true
  | int a =>
    obtain ⟨t', rfl⟩ := ry
    cases x with
    | non => cases rx; exact SeqAt.EqAt.int_none a t'
    | bl b => cases rx; exact SeqAt.EqAt.int_bool a t' b
    | int b => obtain ⟨t, rfl⟩ := rx; exact SeqAt.EqAt.int_int a t' b t
    | str b => obtain ⟨t, rfl⟩ := rx; exact SeqAt.EqAt.int_str a t' b t
    | _ => exact absurd (show false = true from fx) Bool.false_ne_true
  | str a =>
    obtain ⟨t', rfl⟩ := ry
    cases x with
    | non => cases rx; exact SeqAt.EqAt.str_none a t'
    | bl b => cases rx; exact SeqAt.EqAt.str_bool a t' b
    | int b => obtain ⟨t, rfl⟩ := rx; exact SeqAt.EqAt.str_int a t' b t
    | str b => obtain ⟨t, rfl⟩ := rx; exact SeqAt.EqAt.str_str a t' b t
    | _ => exact absurd (show false = true from fx) Bool.false_ne_true
  | _ => exact absurd (show false = true from fy) Bool.false_ne_true
noncomputable def eqU (x : V) (u : Value) : Bool := match u with
  | .none => eqV .non x
  | .bool b => eqV (.bl b) x
  | .int i _ => eqV (.int i) x
  | .str z _ => eqV (.str z) x
  | _ => false
theorem eqU_of {x y : V} {u : Value} (r : RelV y u) (f : flatV y = true) : eqU x u = eqV y x := by
  cases y with
  | non => cases r; rfl
  | bl b => cases r; rfl
  | int i => obtain ⟨t, rfl⟩ := r; rfl
  | str z => obtain ⟨t, rfl⟩ := r; rfl
  | _ => exact absurd (show false = true from f) Bool.false_ne_true
theorem any_eqU {x : V} : ∀ {xs : List V} {us : List Value}, Vals xs us → xs.all flatV = true → us.any (eqU x) = xs.any fun y => eqV y x
  | _, _, .nil, _ => rfl
  | y :: xs, u :: us, .cons r t, f => by
    rw [List.all_cons, Bool.and_eq_true] at f
    rw [List.any_cons, List.any_cons, eqU_of r f.1, any_eqU t f.2]
theorem mem_eqAt {A : Around} {s : Shared} {x : V} {v : Value} (rx : RelV x v) (fx : flatV x = true) : ∀ {xs : List V} {us : List Value}, Vals xs us → xs.all flatV = true → ∀ u ∈ us, SeqAt.EqAt A s u v (eqU x u)
  | _, _, .nil, _ => fun u hu => by cases hu
  | y :: xs, u :: us, .cons r t, f => fun u' hu => by
    rw [List.all_cons, Bool.and_eq_true] at f
    rcases List.mem_cons.mp hu with rfl | hu
    · rw [eqU_of r f.1]; exact eqAt_V r rx f.1 fx
    · exact mem_eqAt rx fx t f.2 u' hu
noncomputable def inV (x : V) (xs : List V) : Bool := xs.any fun y => eqV y x
noncomputable def rIn (K : PySem.W.Frag) (neg : Bool) : R2 := fun x y H Q => ∃ p xs, y = .ref p ∧ (SqL K H p xs ∨ SqT K H p xs) ∧ flatV x = true ∧ xs.all flatV = true ∧ Q (.bl (if neg then !inV x xs else inV x xs)) H
theorem op_in_seq : OpR X (compareOp .In) (rIn X.K false) := by
  intro pins s σ H x y v u Q I rx ry h
  obtain ⟨p, xs, rfl, hq, fx, fs, q⟩ := h
  cases ry
  rcases hq with hq | hq
  · obtain ⟨its, r, pl, hz⟩ := I.list hq
    refine SeqAt.in_listAt (eqU x) pl.isList (fun w hw => mem_eqAt rx fx r fs w (by simpa using hw)) ⟨.bl _, H, I, rfl, ?_⟩
    rw [show its.toArray.any (eqU x) = its.any (eqU x) by simp, any_eqU r fs]
    exact q
  · obtain ⟨its, r, pl, hz⟩ := I.tuple hq
    refine SeqAt.in_tupleAt (eqU x) pl (fun w hw => mem_eqAt rx fx r fs w (by simpa using hw)) ⟨.bl _, H, I, rfl, ?_⟩
    rw [show its.toArray.any (eqU x) = its.any (eqU x) by simp, any_eqU r fs]
    exact q
theorem call_len_seq : CallR X (.builtin "len") (fun xs H Q => ∃ p ys, xs = [.ref p] ∧ (SqL X.K H p ys ∨ SqT X.K H p ys) ∧ Q (.int ys.length) H) := by
  intro pins s σ H xs us Q I r h
  obtain ⟨p, ys, rfl, hq, q⟩ := h
  obtain ⟨u, rfl, rx⟩ := vals1 r
  cases rx
  have hn := line63
  rcases hq with hq | hq
  · obtain ⟨its, r', pl, hz⟩ := I.list hq
    have hlen := r'.length
    exact Calls.call_len_list pl.isList (by simp only [List.size_toArray] <;> omega) ⟨.int ys.length, H, I.tok _, ⟨s.toks + 1, by rw [List.size_toArray, hlen]⟩, q⟩
  · obtain ⟨its, r', pl, hz⟩ := I.tuple hq
    have hlen := r'.length
    exact len_tuple pl (by simp only [List.size_toArray] <;> omega) ⟨.int ys.length, H, I.tok _, ⟨s.toks + 1, by rw [List.size_toArray, hlen]⟩, q⟩
theorem call_len_str : CallR X (.builtin "len") (fun xs H Q => ∃ z, xs = [.str z] ∧ z.length ≤ sizeLine ∧ Q (.int z.length) H) := by
  intro pins s σ H xs us Q I r h
  obtain ⟨z, rfl, hz, q⟩ := h
  obtain ⟨u, rfl, t, rfl⟩ := vals1 r
  have hn := line63
  exact len_str (by omega) ⟨.int z.length, H, I.tok _, ⟨_, rfl⟩, q⟩
theorem CallR.or {f : Value} {r r' : List V → Hp → VK → Prop} (h : CallR X f r) (h' : CallR X f r') : CallR X f (fun xs H Q => r xs H Q ∨ r' xs H Q) := by
  intro pins s σ H xs us Q I rs q
  rcases q with q | q
  · exact h pins s σ H xs us Q I rs q
  · exact h' pins s σ H xs us Q I rs q
noncomputable def tyV (K : PySem.W.Frag) (T : String) (x : V) (H : Hp) : Prop := match x with
  | .str _ => T = "str"
  | .int _ => T = "int"
  | .ref p => (T = "list" ∧ ∃ xs, SqL K H p xs) ∨ (T = "tuple" ∧ ∃ o, K.lookup p = some o ∧ o.cls = .type "tuple" ∧ o.dict = none) ∨
      (T = "dict" ∧ ((∃ kvs, H p = some (.dK kvs)) ∨ ∃ kvs, H p = some (.dT kvs))) ∨ (T = "set" ∧ ∃ S n, H p = some (.set S n))
  | _ => False
theorem tyV_is {pins : List (Addr × Obj)} {σ : St} {H : Hp} {s : Shared} {T : String} {x : V} {v : Value} (I : Inv X pins σ H s) (r : RelV x v) (ty : tyV X.K T x H) :
    s.TypeIs v T ∧ ∀ a, v = .ref a → ∃ ob, s.heap.get? a = some ob ∧ ob.dict = none := by
  cases x with
  | str z =>
    obtain ⟨t, rfl⟩ := r
    cases (show T = "str" from ty)
    exact ⟨typeIs_str s z t, fun _ e => nomatch e⟩
  | int i =>
    obtain ⟨t, rfl⟩ := r
    cases (show T = "int" from ty)
    exact ⟨typeIs_int s i t, fun _ e => nomatch e⟩
  | ref p =>
    cases r
    rcases ty with ⟨rfl, xs, hq⟩ | ⟨rfl, o, hk, hc, hd⟩ | ⟨rfl, hk⟩ | ⟨rfl, S, n, hk⟩
    · obtain ⟨its, _, pl, _⟩ := I.list hq
      refine ⟨pl.isList.typeIs, fun a e => ?_⟩
      cases e
      obtain ⟨o, n, e, c, hd, _⟩ := pl
      exact ⟨o, e, hd⟩
    · refine ⟨⟨o, I.kIn p o hk, hc⟩, fun a e => ?_⟩
      cases e
      exact ⟨o, I.kIn _ o hk, hd⟩
    · have z : ∃ o, s.heap.get? p = some o ∧ o.ExactDict := by
        rcases hk with ⟨kvs, hk⟩ | ⟨kvs, hk⟩
        · obtain ⟨_, _, _, _, o, _, _, e, ex, _⟩ := I.hok p _ hk
          exact ⟨o, e, ex⟩
        · obtain ⟨_, _, _, _, o, _, _, e, ex, _⟩ := I.hok p _ hk
          exact ⟨o, e, ex⟩
      obtain ⟨o, e, ex⟩ := z
      refine ⟨⟨o, e, ex.1⟩, fun a e2 => ?_⟩
      cases e2
      exact ⟨o, e, ex.2.1⟩
    · obtain ⟨o, _, _, _, e, ex, _⟩ := I.hok p _ hk
      refine ⟨⟨o, e, ex.1⟩, fun a e2 => ?_⟩
      cases e2
      exact ⟨o, e, ex.2.1⟩
  | _ => exact False.elim ty
noncomputable def tBM0 (K : PySem.W.Frag) (T : String) (r : V → List V → Hp → VK → Prop) (to : TE) : TE := fun σ H Q => to σ H fun x H1 => tyV K T x H1 ∧ r x [] H1 Q
noncomputable def tBM (K : PySem.W.Frag) (T : String) (r : V → List V → Hp → VK → Prop) (to : TE) (t : TA) : TE := fun σ H Q => to σ H fun x H1 => tyV K T x H1 ∧ t σ H1 fun xs H2 => r x xs H2 Q
variable {o e : Expr} {es : List Expr} {to : TE} {t : TA} {name : Str} {apos cpos : Pos} {T id : String} {r : V → List V → Hp → VK → Prop}
theorem pe_bm (pa : PlainAttrs T) (slot : Slot T name id) (hty : typeOf (.builtin id) = pure (.type "method_descriptor")) (hm : MtR X id r) (ho : PE X o to) (ha : PA X (e :: es) t)
    (hbase : attributeBase o name X.env (eval o X.env) = eval o X.env := by rfl)
    (hfew : ((backTo cpos (starEach (e :: es) X.env)).all (fun x => !x.1) && (backToKw cpos (keywordEach [] X.env)).all (fun x => x.1.isSome)
      && decide ((e :: es).length + ([] : List Keyword).length + (if ([] : List Keyword).isEmpty then 0 else 1) < 30)) = true := by rfl)
    (hline : (apos.endLine == cpos.line) = true := by rfl) (hs : starEach (e :: es) X.env = (false, eval e X.env) :: starEach es X.env := by rfl) (hplain : (backTo cpos (starEach es X.env)).any (·.1) = false := by rfl) :
    PE X (.Call (.Attribute o name apos) (e :: es) [] cpos) (tBM X.K T r to t) := by
  intro pins s σ H Q I h
  refine wpAny_Call_method_late hbase hfew hline rfl (thn (ho pins s σ H _ I h) fun v s1 ⟨x, H1, I1, r1, ty, q1⟩ => ?_)
  obtain ⟨h1, h2⟩ := tyV_is I1 r1 ty
  refine ⟨T, id, pa, slot, hty, h1, h2, ?_⟩
  have hA := ha cpos pins s1 σ H1 _ I1 q1
  rw [hs] at hA ⊢
  refine Calls.callWith_builtin (by show (false || (backTo cpos (starEach es X.env)).any (·.1)) = false; rw [hplain] <;> rfl) (Calls.evalArgs_plain ?_)
  exact thn hA fun us s2 ⟨vs, H2, I2, r2, q2⟩ => hm pins s2 σ H2 x vs v us Q I2 r1 r2 q2
/- xs.append(e), list.index on a module's tuple .. are MtR facts of 06m -/
end
end L2

namespace L2
open PySem PySem.Spec PyProof.Rows

noncomputable def MtM (X : Cx) (id : String) (r : V → List V → Hp → VK → Prop) : Prop :=
  ∀ (pins : List (Addr × Obj)) (s : Shared) (σ : St) (H : Hp) (x : V) (xs : List V) (v : Value) (us : List Value) (Q : VK), Inv X pins σ H s → RelV x v → Vals xs us → r x xs H Q →
    wpAny (model X.prog X.w) X.A (call (.builtin id) (v :: us)) (EP X pins σ Q) X.xe s

theorem Vals.one : ∀ {x : V} {us : List Value}, Vals [x] us → ∃ u, us = [u] ∧ RelV x u
  | _, _, .cons r .nil => ⟨_, rfl, r⟩
section
variable {X : Cx} {pins : List (Addr × Obj)} {σ : St} {H : Hp} {s : Shared} {l b : Addr} {xs ys zs : List V}

theorem Inv.lset {its its' : List Value} {n : Nat} {f : Array Value → Array Value} {t' : Nat} (I : Inv X pins σ H s) (hH : H l = some (.lst xs))
    (e : s.heap.get? l = some { cls := .type "list", data := .seq its.toArray n }) (hf : f its.toArray = its'.toArray) (hv : Vals ys its') (hz : ys.length ≤ sizeLine) :
    Inv X pins σ (upd H l (.lst ys)) { s with heap := s.heap.update l (Obj.mapSeq f), toks := t' } := by
  have q := PySem.IsL.update e f
  rw [hf] at q
  refine I.write (x := l) (e := l) (by rw [hH]; exact trivial) (.inl rfl) (fun b' u hb hu => (Heap.get?_update_other s.heap (Obj.mapSeq f) (Ne.symm hb)).trans hu) ⟨_, q⟩ ?_
  exact ⟨hz, its', _, hv, q⟩
theorem Inv.lnew {its : List Value} {t' : Nat} (I : Inv X pins σ H s) (hv : Vals ys its) (hz : ys.length ≤ sizeLine) :
    Inv X pins σ (upd H s.heap.objs.size (.lst ys)) { s with heap := s.heap.push { cls := .type "list", data := .seq its.toArray }, toks := t' } :=
  I.laid (fun _ _ q => Heap.get?_push_of_some _ q) (Nat.le_refl _) ⟨hz, its, 0, hv, Heap.get?_push_size _ rfl⟩
theorem Inv.fresh (I : Inv X pins σ H s) : H s.heap.objs.size = none := I.hok.fresh (Nat.le_refl _)
theorem Inv.lstM (I : Inv X pins σ H s) (hH : H l = some (.lst xs)) : xs.length ≤ sizeLine ∧ ∃ (its : List Value) (n : Nat), Vals xs its ∧ xs.length = its.length ∧ s.heap.get? l = some { cls := .type "list", data := .seq its.toArray n } := by
  obtain ⟨z, its, n, r, e⟩ := I.hok l _ hH
  exact ⟨z, its, n, r, r.length, e⟩

end

section
variable {X : Cx}

noncomputable def rAppend : V → List V → Hp → VK → Prop := fun x vs H Q => ∃ l xs y, x = .ref l ∧ vs = [y] ∧ H l = some (.lst xs) ∧ xs.length < sizeLine ∧ Q .non (upd H l (.lst (xs ++ [y])))
theorem mt_append : MtM X "list.append" rAppend := by
  intro pins s σ H x vs v us Q I rx rv h
  obtain ⟨l, xs, y, rfl, rfl, hH, hz, q⟩ := h
  cases rx
  obtain ⟨u, rfl, ru⟩ := rv.one
  obtain ⟨z, its, n, r, hl, e⟩ := I.lstM hH
  refine call_meets F.slot_list_append ⟨_, e, rfl⟩ F.entry_list_append (F.args_list_append_2 _ _) (PySem.list_append l its.toArray n u (by rw [List.size_toArray]; omega)) ⟨e, ?_⟩
  refine ⟨.non, _, I.lset (its' := its ++ [u]) hH e (by simp) (r.append (.cons ru .nil)) ?_, rfl, q⟩
  rw [List.length_append, List.length_singleton]
  omega

noncomputable def rCat : R2 := fun x y H Q => ∃ l b xs zs, x = .ref l ∧ y = .ref b ∧ H l = some (.lst xs) ∧ H b = some (.lst zs) ∧ xs.length + zs.length ≤ sizeLine ∧ ∀ p, H p = none → Q (.ref p) (upd H p (.lst (xs ++ zs)))
theorem op_cat : OpR X (binaryOp .Add) rCat := by
  intro pins s σ H x y v u Q I rx ry h
  obtain ⟨l, b, xs, zs, rfl, rfl, hH, hB, hz, q⟩ := h
  cases rx
  cases ry
  obtain ⟨z, its, n, r, hl, e⟩ := I.lstM hH
  obtain ⟨z2, its2, n2, r2, hl2, e2⟩ := I.lstM hB
  refine PySem.P.add_list e e2 ?_ (by rw [List.size_toArray, List.size_toArray]; omega)
  have ea : its.toArray ++ its2.toArray = (its ++ its2).toArray := by simp
  rw [ea]
  exact ⟨.ref _, _, I.lnew (t' := s.toks) (r.append r2) (by rw [List.length_append]; omega), rfl, q _ I.fresh⟩
end

section
variable {prog : Program} {w : World} {A : Around} {E : Value → Shared → Prop} {s : Shared}
end

section
variable {X : Cx}
end
end L2

namespace Att
open PySem PySem.W PySem.Calls PyProof.Rows

theorem ints_of_wellAll {P : Params} {h : Heap} : ∀ (ns : List Int) (vs : List Value), WellAll P h vs (ns.map WData.int) → IntsAre vs ns := by
  intro ns
  induction ns with
  | nil =>
    intro vs w
    rw [List.map_nil] at w
    cases w
    exact .nil
  | cons n ns ih =>
    intro vs w
    rw [List.map_cons] at w
    cases w with
    | cons a b =>
      cases a
      exact .cons _ _ (ih _ b)

theorem script_of {l : OpenLaw} {n : Nat} (hn : l.most = some n) {P : Params} {h : Heap} {args : List WData} {vals : List Value}
    (hpre : l.row.toRowW.claim.pre args = true) (hwl : WellAll P h vals args) :
    ∃ a vs ns, vals = [Value.ref a] ∧ args = [WData.list (ns.map WData.int)] ∧ h.get? a = some { cls := .type "list", data := .seq vs.toArray } ∧ IntsAre vs ns ∧ ns.length ≤ n := by
  have hsh : WShape.hasAll [] args [.list .int] = true := (pre_splitW hpre).1
  have hc : l.pre.holds [] { args := args } = true := (pre_splitW hpre).2
  obtain ⟨d, r, rfl, h1, h2⟩ := hasAllW_cons hsh
  obtain rfl := hasAllW_nil h2
  obtain ⟨xs, rfl, h3⟩ := hasW_list h1
  obtain ⟨ns, rfl⟩ := items_int h3
  have hlen : ns.length ≤ n := by
    unfold OpenLaw.pre at hc
    have h4 : (WTm.not (.lt (.lit (.int (n : Int))) (.len (.arg 0)))).holds [] { args := [.list (ns.map .int)] } = true := by
      have h4 := (holds_andW hc).1
      rw [hn] at h4
      exact h4
    have h5 := condW_of h4 (w_not (w_lt w_lit (w_len_list (w_arg rfl))))
    rw [List.length_map] at h5
    refine Nat.le_of_not_lt fun q => ?_
    have q' : (n : Int) < ((ns.length : Nat) : Int) := by omega
    first
      | (rw [decide_eq_true q'] at h5; exact absurd h5 (by decide))
      | (simp at h5; omega)
  cases hwl with
  | cons w1 w2 =>
    cases w2
    cases w1 with
    | list ho hall => exact ⟨_, _, ns, rfl, rfl, ho, ints_of_wellAll ns _ hall, hlen⟩

theorem post_true (l : OpenLaw) (args : List WData) : l.row.toRowW.claim.post args (.bool true) args = true :=
  postW_of (r := l.row.toRowW) (X := (true == true))
    (show WShape.has [] (.bool true) .bool = true by first | rfl | decide | simp [WShape.has, WShape.arms, WShape.armsAll])
    (show (WTm.eq .res (.lit (.bool true))).value [] { args := args, res := some (.bool true), after := args } = some (.bool (true == true)) from w_eq_bool (w_res rfl) w_lit) rfl

theorem attach_call {l : OpenLaw} {n : Nat} {q : Program} {loose : List Str} {XP : (Str → Option Value) → Heap → Prop} {YP : World → Heap → Prop} {d : DefRec}
    (hn : l.most = some n) (hdf : d.params.defaults = [])
    (call : ∀ (w : World) (s₀ s₁ : Shared) (mg mb : Str → Option Value) (fa : Addr) (o : Obj) (pm cd doc : Value) (a : Addr) (vs : List Value) (ns : List Int),
      Ground q loose [] XP w s₀ mg mb s₁.heap → YP w s₁.heap →
      s₁.heap.get? fa = some o → o.data = .func (docDef d.name d.params d.body d.scope pm cd doc) → s₁.heap.CodeRec cd d.name → mg d.name = some (.ref fa) →
      s₁.heap.get? a = some { cls := .type "list", data := .seq vs.toArray } → IntsAre vs ns → ns.length ≤ n → s₁.gens = #[] →
      codeAny (model l.prog w) callerA (.call (.ref fa) ⟨[.ref a], []⟩) (fun r s' => r = .ok (.ret (.bool true)) ∧ OldK s₁.heap s'.heap ∧ s'.os = s₁.os ∧ AllBare s'.gens) s₁) :
    WalkO q loose XP YP l.row.toRowW d [] (fun f vs => PySem.call f vs) := by
  intro w s₀ s₁ mg mb G Y fa o pm cd doc dV kV ho hd hcd hD hmg hg args vals as hpre hlay hrd hwl hlo
  obtain rfl : dV = .none := Dflts.none hD hdf
  obtain rfl : kV = .none := Dflts.noKw hD
  obtain ⟨a, vs, ns, rfl, rfl, hobj, hints, hlen⟩ := script_of hn hpre hwl
  refine enter_call (codeAny_mono (call w s₀ s₁ mg mb fa o pm cd doc a vs ns G Y ho (fd_plain hd) hcd hmg hobj hints hlen hg) fun r s' hq => ?_)
  obtain ⟨rfl, h2, h3, h4⟩ := hq
  exact ⟨.inl ⟨.bool true, .bool true, [], rfl, fun _ => rfl, .bool true, post_true l _, fun _ => ⟨List.Pairwise.nil, fun _ hm => (nomatch hm)⟩⟩, h2, h3, h4⟩

section
variable {prog : Program} {w : World} {A : Around} {E : Value → Shared → Prop} {s : Shared} {K : Frag}

end
end Att

namespace L2
open PySem PySem.Spec PyProof.Rows

theorem vals_ints : ∀ {vs : List Value} {ns : List Int}, IntsAre vs ns → Vals (ns.map V.int) vs
  | _, _, .nil => .nil
  | _, _, .cons n t h => .cons ⟨t, rfl⟩ (vals_ints h)

noncomputable def Only (H : Hp) : Prop := ∀ b, H b = none ∨ ∃ o xs, H b = some (.frz o (.lst xs))

theorem law_call {P : Program} {w : World} {K : PySem.W.Frag} {mg mb : Str → Option Value} {CX : CXT} {k : Nat} {fa a : Addr} {fd : FuncData} {x : Str} {sp : Sp} {s₁ : Shared} {vs : List Value} {ns : List Int}
    (KX : K.In s₁.heap) (hns : s₁.heap.Ns mainGlobals mg) (hb : s₁.heap.Ns builtinsNs mb) (hbb : ∀ x : Str, x ≠ "__name__" → mb x = bootBuiltins x) (hlim : s₁.heap.NoLimit) (hg : s₁.gens = #[])
    (ha : s₁.heap.get? a = some { cls := .type "list", data := .seq vs.toArray }) (hi : IntsAre vs ns) (hl : ns.length ≤ sizeLine) (hr : Room k callerA)
    (F : ∀ base : Heap, K.In base → base.Ns mainGlobals mg → FnOk P w K mg base CX k fa fd [x] sp) (hbind : ∀ (s : Shared) (u : Value), BindsTo s fd ⟨[u], []⟩ [(x, u)])
    (hsp : ∀ H : Hp, Only H → SqL K H a (ns.map V.int) → sp [.ref a] H (fun v _ => v = .bl true) fun _ _ _ => False)
    (hCX : ∀ H e s', CX [] H s₁ (fun _ _ _ => False) e s' → False) :
    codeAny (model P w) callerA (.call (.ref fa) ⟨[.ref a], []⟩) (fun r s' => r = .ok (.ret (.bool true)) ∧ OldK s₁.heap s'.heap ∧ s'.os = s₁.os ∧ AllBare s'.gens) s₁ := by
  have rv := vals_ints hi
  have lenV := hi.length
  -- from an abstract heap in which nothing but the script may be tracked
  have core : ∀ H : Hp, Only H → SqL K H a (ns.map V.int) → HOk P w H s₁.heap → (∀ b, H b ≠ none → b = a) → (H a ≠ none → K.lookup a = none) →
      codeAny (model P w) callerA (.call (.ref fa) ⟨[.ref a], []⟩) (fun r s' => r = .ok (.ret (.bool true)) ∧ OldK s₁.heap s'.heap ∧ s'.os = s₁.os ∧ AllBare s'.gens) s₁ := by
    intro H hO hS hok hA hK
    have base_of : ∀ {b : Addr} {o : Obj}, s₁.heap.get? b = some o → H b = none → (hidT s₁.heap H).get? b = some o := fun e n => hidT_get e n
    have noA : ∀ {b : Addr} {o : Obj} {es : Array DictEntry} {ep : Nat}, s₁.heap.get? b = some o → o.data = .dict es ep → H b = none := fun {b o es ep} e d => by
      cases q : H b with
      | none => rfl
      | some u =>
        have e' : b = a := hA b (by rw [q]; simp)
        subst e'
        rw [ha] at e; cases e
        have d' : Data.seq vs.toArray _ = Data.dict es ep := d
        cases d'
    have nsK : ∀ {b : Addr} {m : Str → Option Value}, s₁.heap.Ns b m → (hidT s₁.heap H).Ns b m := fun {b m} ⟨o, es, ep, e, d, r⟩ => ⟨o, es, ep, base_of e (noA e d), d, r⟩
    have hKb : K.In (hidT s₁.heap H) := fun b o e => base_of (KX b o e) (by
      cases q : H b with
      | none => rfl
      | some u =>
        have e' : b = a := hA b (by rw [q]; simp)
        subst e'
        rw [hK (by rw [q]; simp)] at e; cases e)
    have hM : Mod K mg (hidT s₁.heap H) := ⟨hKb, nsK hns, ⟨mb, nsK hb, hbb⟩, let ⟨mc, h1, h2⟩ := hlim; ⟨mc, nsK h1, h2⟩⟩
    have e0 : Env0 P w K mg (hidT s₁.heap H) callerA [] s₁ H := ⟨rfl, hM, fun b o e => of_hidT e, Nat.le_of_eq (hidT_size _ _), trivial, fun b hb => absurd (show b ∈ ([] : List Addr) from hb) (by simp), hok, .of_eq hg⟩
    refine codeAny_mono ((F _ hKb (nsK hns)).run callerA [] s₁ H ⟨[.ref a], []⟩ [.ref a] [.ref a] _ _ hr e0 (hbind s₁ (.ref a)) (.cons rfl .nil) (hsp H hO hS)) fun r s' h => ?_
    cases r with
    | error e => exact (hCX H e s' h).elim
    | ok fl =>
      cases fl with
      | next => exact False.elim h
      | brk => exact False.elim h
      | cont => exact False.elim h
      | ret u =>
        obtain ⟨v, H', os, bare, un, hok', r', q⟩ := h
        have q' : v = .bl true := q
        subst q'
        obtain rfl : u = Value.bool true := r'
        refine ⟨rfl, OldK.of_keep fun b o e => ?_, os, bare⟩
        cases q : H b with
        | none => exact un.keep b o e q (by intro z; exact absurd (show b ∈ ([] : List Addr) from z) (by simp)) (by simp)
        | some u =>
          rcases hO b with z | ⟨ob, xs, z⟩
          · rw [q] at z; cases z
          · have z2 := un.frzs b ob _ z
            obtain ⟨e1, _⟩ := hok b _ z
            obtain ⟨e2, _⟩ := hok' b _ z2
            rw [e] at e1; cases e1
            exact e2
  cases hk : K.lookup a with
  | some o =>
    -- the script is one of the module's own objects
    have e := KX a o hk
    rw [ha] at e
    cases e
    refine core (fun _ => none) (fun _ => .inl rfl) (.inr ⟨_, vs.toArray, _, hk, rfl, rfl, rfl, by rw [List.size_toArray, lenV]; exact hl, by simpa using rv⟩) (fun b u z => by have z' : (none : Option HO) = some u := z; cases z') (fun b z => absurd rfl z) fun z => absurd rfl z
  | none =>
    refine core (fun b => if b = a then some (.frz { cls := .type "list", data := .seq vs.toArray } (.lst (ns.map V.int))) else none) (fun b => ?_) (.inl (.inr ⟨{ cls := .type "list", data := .seq vs.toArray }, if_pos rfl⟩)) (fun b u z => ?_) (fun b z => ?_) fun _ => hk
    · by_cases hb : b = a
      · exact .inr ⟨_, _, if_pos hb⟩
      · exact .inl (if_neg hb)
    · by_cases hb : b = a
      · have z' := (if_pos hb).symm.trans z
        cases z'
        subst hb
        exact ⟨ha, by rw [List.length_map]; exact hl, vs, _, rv, ha⟩
      · have z' := (if_neg hb).symm.trans z
        cases z'
    · by_cases hb : b = a
      · exact hb
      · exact absurd (if_neg hb) z
end L2

namespace L2
open PySem PySem.Spec PyProof.Rows

theorem walk_of {l : PySem.W.OpenLaw} {n k : Nat} {q : Program} {loose : List Str} {XP : (Str → Option Value) → Heap → Prop} {YP : World → Heap → Prop} {d : DefRec} {K : Params → PySem.W.Frag} {CX : World → CXT} {sp : World → Sp} {x : Str}
    (hn : l.most = some n) (hn2 : n ≤ sizeLine) (hdf : d.params.defaults = []) (hr : Room k callerA)
    (hY : ∀ (w : World) (h : Heap), YP w h → (K w.params).In h)
    (F : ∀ (w : World) (mg : Str → Option Value) (fa : Addr) (h : Heap), (K w.params).In h → h.Ns mainGlobals mg → mg d.name = some (.ref fa) →
      ∃ fd : FuncData, (∀ (s : Shared) (u : Value), BindsTo s fd ⟨[u], []⟩ [(x, u)]) ∧
        ∀ base : Heap, (K w.params).In base → base.Ns mainGlobals mg → FnOk l.prog w (K w.params) mg base (CX w) k fa fd [x] (sp w))
    (hsp : ∀ (w : World) (H : Hp) (a : Addr) (ns : List Int), ns.length ≤ n → Only H → SqL (K w.params) H a (ns.map V.int) → sp w [.ref a] H (fun v _ => v = .bl true) fun _ _ _ => False)
    (hCX : ∀ (w : World) (H : Hp) (s : Shared) (e : Value) (s' : Shared), CX w [] H s (fun _ _ _ => False) e s' → False) :
    PySem.W.WalkO q loose XP YP l.row.toRowW d [] (fun f vs => PySem.call f vs) := by
  refine Att.attach_call hn hdf fun w s₀ s₁ mg mb fa o pm cd doc a vs ns G Y ho hd hcd hmg hobj hints hlen hg => ?_
  have KX := hY w _ Y
  obtain ⟨fd, hb, hF⟩ := F w mg fa _ KX G.T.g hmg
  exact law_call KX G.T.g G.T.b G.T.builtins G.T.nolimit hg hobj hints (Nat.le_trans hlen hn2) hr hF hb (fun H hO hS => hsp w H a ns hlen hO hS) fun H e s' => hCX w H s₁ e s'
theorem walk_ofK {l : PySem.W.OpenLaw} {n k : Nat} {q : Program} {loose : List Str} {XP : (Str → Option Value) → Heap → Prop} {YP : World → Heap → Prop} {d : DefRec} {K : Params → PySem.W.Frag} {CX : CXT} {sp : PySem.W.Frag → Sp} {x : Str}
    (hn : l.most = some n) (hn2 : n ≤ sizeLine) (hdf : d.params.defaults = []) (hr : Room k callerA)
    (hY : ∀ (w : World) (h : Heap), YP w h → (K w.params).In h)
    (F : ∀ (w : World) (mg : Str → Option Value) (fa : Addr) (h : Heap), (K w.params).In h → h.Ns mainGlobals mg → mg d.name = some (.ref fa) →
      ∃ fd : FuncData, (∀ (s : Shared) (u : Value), BindsTo s fd ⟨[u], []⟩ [(x, u)]) ∧
        ∀ base : Heap, (K w.params).In base → base.Ns mainGlobals mg → FnOk l.prog w (K w.params) mg base CX k fa fd [x] (sp (K w.params)))
    (hsp : ∀ (K : PySem.W.Frag) (H : Hp) (a : Addr) (ns : List Int), ns.length ≤ n → Only H → SqL K H a (ns.map V.int) → sp K [.ref a] H (fun v _ => v = .bl true) fun _ _ _ => False)
    (hCX : ∀ (H : Hp) (s : Shared) (e : Value) (s' : Shared), CX [] H s (fun _ _ _ => False) e s' → False) :
    PySem.W.WalkO q loose XP YP l.row.toRowW d [] (fun f vs => PySem.call f vs) :=
  walk_of (K := K) (CX := fun _ => CX) (sp := fun w => sp (K w.params)) hn hn2 hdf hr hY F (fun w H a ns h1 h2 h3 => hsp (K w.params) H a ns h1 h2 h3) fun _ H s e s' => hCX H s e s'
end L2

/- THE LAST THEOREM (shape; LID, My.* are yours):
   My.Adr: a structure of the addresses that your layer names (classes, functions); My.Txt K t: a structure (Prop) of the equations over K;
   My.txt_mk : {K} {implicit addresses ..} (e1 : nsIn K mainGlobals "law" = some (some (.ref f))) (e2 : K.lookup f = some ⟨oc, od, .func (fnOf "law" "law" params body scope dV kV doc pm an cdv ct), sl⟩) (e3 : codeIn K cdv "law" = true) .. : ∃ t, My.Txt K t

set_option maxRecDepth 100000 in
set_option maxHeartbeats 0 in
theorem PySem.Challenge.cw_LID_holds : PySem.Challenge.rw_LID.Holds := by
  w_on; o_law; k_head; (case hw => w_witness2)
  k_fill
  refine L2.walk_of (l := PySem.Challenge.rw_LID) (n := 63) (k := 40) (x := "script") (CX := fun w => ..) (sp := fun _ => My.sp_law) rfl (by decide) rfl ⟨rfl, by decide, by decide⟩ (fun w h Y => PySem.W.kIn_of Y) ?F ?S ?C
  case F =>
    intro w mg fa h KX G hmg
    have T : ∃ t, My.Txt (L2.KOf KX) t := by
      dsimp only [L2.KOf]                          -- K must stand as «<heap const> w.params» for k_is
      refine' My.txt_mk ?e1 ?e2 ?e3 ..
      (case e1 => PySem.W.k_is)                    -- in the order: a name -> its address -> its object -> its parts
      (case e2 => PySem.W.k_is)
      ..
    obtain ⟨t, T⟩ := T
    have e0 := hmg.symm.trans (PySem.W.mg_of KX G T.law)
    cases e0                                       -- fa is the law's own address
    exact ⟨_, fun s u => .of_eq rfl, fun base kb nb => My.law_fn T kb nb⟩     -- if «.of_eq rfl» comes too early: refine' ⟨_, ?b, fun base kb nb => My.law_fn T kb nb⟩; exact fun s u => .of_eq rfl
  case S => exact fun w H a ns hl hO hS => ..
  case C => exact ..
(the tactic k_is has no namespace: write k_is) -/

namespace L2
open PySem PySem.Spec PyProof.Rows

noncomputable def inClass (s : Stmt) (j : Nat) : Stmt := match s with
  | .ClassDef _ _ _ body _ _ _ _ _ _ _ => body.getD j (.Pass ⟨0, 0, 0, 0⟩)
  | _ => .Pass ⟨0, 0, 0, 0⟩
noncomputable def defArgs (s : Stmt) : Arguments := match s with
  | .FunctionDef _ a _ _ _ _ _ _ _ _ => a
  | _ => { posonlyargs := [], args := [], vararg := none, kwonlyargs := [], kw_defaults := [], kwarg := none, defaults := [] }
noncomputable def defBody (s : Stmt) : List Stmt := match s with
  | .FunctionDef _ _ b _ _ _ _ _ _ _ => b
  | _ => []
noncomputable def defScope (s : Stmt) : Scope := match s with
  | .FunctionDef _ _ _ _ _ _ sc _ _ _ => sc
  | _ => { kind := .function, names := [], isGenerator := false, isCoroutine := false }

noncomputable abbrev CX0 : CXT := fun _ _ _ _ _ _ => False
noncomputable abbrev E0 : XK := fun _ _ _ => False
theorem pass0 {X : Cx} : Passes CX0 X E0 := fun _ _ _ _ _ _ _ h => h.elim

structure Fun (K : PySem.W.Frag) (x qual : Str) (st : Stmt) (f : Addr) (fd : FuncData) : Prop where
  ex : ∃ (oc : Value) (od : Option Addr) (kV doc pm : Value) (an : Option Addr) (cdv ct : Value) (osl : Array (Option Value)),
    fd = PySem.W.fnOf x qual (defArgs st) (defBody st) (defScope st) .none kV doc pm an cdv ct ∧ K.lookup f = some ⟨oc, od, .func fd, osl⟩ ∧ PySem.W.codeIn K cdv qual = true
  kp : PySem.W.keepIn K (.ref f) = true
section
variable {P : Program} {w : World} {K : PySem.W.Frag} {mg : Str → Option Value} {base : Heap}
theorem Fun.binds {x qual : Str} {st : Stmt} {f : Addr} {fd : FuncData} {ps : List Str} (F : Fun K x qual st f fd)
    (h : ∀ (kV doc pm : Value) (an : Option Addr) (cdv ct : Value) (us : List Value), us.length = ps.length → bindArgs (PySem.W.fnOf x qual (defArgs st) (defBody st) (defScope st) .none kV doc pm an cdv ct) ⟨us, []⟩ = pure (ps.zip us)) : Binds K fd ps [] := by
  obtain ⟨oc, od, kV, doc, pm, an, cdv, ct, osl, rfl, lk, hcd⟩ := F.ex
  exact .all (h kV doc pm an cdv ct)
theorem fun_mk {x qual : Str} {st : Stmt} {f : Addr} {oc : Value} {od an : Option Addr} {osl : Array (Option Value)} {kV doc pm cdv ct : Value} (l : K.lookup f = some ⟨oc, od, .func (PySem.W.fnOf x qual (defArgs st) (defBody st) (defScope st) .none kV doc pm an cdv ct), osl⟩)
    (c : PySem.W.codeIn K cdv qual = true) (k : PySem.W.keepIn K (.ref f) = true) : Fun K x qual st f (PySem.W.fnOf x qual (defArgs st) (defBody st) (defScope st) .none kV doc pm an cdv ct) := ⟨⟨oc, od, kV, doc, pm, an, cdv, ct, osl, rfl, l, c⟩, k⟩
end
section
variable {X : Cx}
theorem pv (i : Nat) {x : Str} {pos : Pos} (hN : X.N[i]? = some x := by rfl) (hv : Vis X.env.scope x := by first | exact Or.inl rfl | exact Or.inr (Or.inl rfl) | exact Or.inr (Or.inr rfl)) (hd : (x == ("__debug__" : Str)) = false := by decide)
    (hcd : (x == ("__classdict__" : Str)) = false := by decide) : PE X (.Name x pos) (tVar i) := pe_var hN hv hd hcd
end

noncomputable def Same (H H' : Hp) : Prop := ∀ b o, H b = some o → H' b = some o
theorem Same.refl (H : Hp) : Same H H := fun _ _ h => h
theorem Same.trans {H H1 H2 : Hp} (a : Same H H1) (b : Same H1 H2) : Same H H2 := fun c o h => b c o (a c o h)
end L2


set_option maxRecDepth 100000
namespace L2
open PySem PySem.Spec PyProof.Rows

section
variable {κ : Type} [DecidableEq κ]
end


section
variable {P : Program} {w : World} {H : Hp} {h : Heap} {a : Addr}
end

section
variable {X : Cx} {pins : List (Addr × Obj)} {σ : St} {H : Hp} {s : Shared} {a : Addr} {y v : V} {u r : Value} {o : Option V} {A : Around} {E : Value → Shared → Prop}

end

section
variable {X : Cx} {pins : List (Addr × Obj)} {σ : St} {H : Hp} {s : Shared} {a : Addr} {kvs : List (Key × V)} {k : Key} {u : Value} {A : Around} {E : Value → Shared → Prop}
end


section
variable {X : Cx} {o i e value : Expr} {pos pos' tpos : Pos} {td ty tv : TE}
end


section
variable {X : Cx} {pos : Pos}
end

structure M1 (X : Cx) (o : Expr) (m : Str) (apos : Pos) (e : Expr) (cpos : Pos) : Prop where
  base : attributeBase o m X.env (eval o X.env) = eval o X.env
  few : ((backTo cpos (starEach [e] X.env)).all (fun x => !x.1) && (backToKw cpos (keywordEach [] X.env)).all (fun x => x.1.isSome)
    && decide (([e] : List Expr).length + ([] : List Keyword).length + (if ([] : List Keyword).isEmpty then 0 else 1) < 30)) = true
  line : (apos.endLine == cpos.line) = true
  trees : backTo cpos (starEach [e] X.env) = [(false, eval e X.env)]
structure M2 (X : Cx) (o : Expr) (m : Str) (apos : Pos) (e f : Expr) (cpos : Pos) : Prop where
  base : attributeBase o m X.env (eval o X.env) = eval o X.env
  few : ((backTo cpos (starEach [e, f] X.env)).all (fun x => !x.1) && (backToKw cpos (keywordEach [] X.env)).all (fun x => x.1.isSome)
    && decide (([e, f] : List Expr).length + ([] : List Keyword).length + (if ([] : List Keyword).isEmpty then 0 else 1) < 30)) = true
  line : (apos.endLine == cpos.line) = true
  trees : backTo cpos (starEach [e, f] X.env) = [(false, eval e X.env), (false, eval f X.env)]

section
variable {X : Cx} {pins : List (Addr × Obj)} {σ : St} {H : Hp} {s : Shared} {a : Addr} {y d : V} {u r : Value} {o : Option V} {A : Around} {E : Value → Shared → Prop}
end

section
variable {X : Cx} {o e f : Expr} {apos cpos : Pos} {td ty tx : TE}
end

section
variable {X : Cx} {pins : List (Addr × Obj)} {σ : St} {H : Hp} {s : Shared} {a : Addr} {kvs : List (Key × V)} {A : Around} {E : Value → Shared → Prop}
end


section
variable {X : Cx} {pins : List (Addr × Obj)} {σ : St} {H : Hp} {s : Shared} {a : Addr} {y : V} {u : Value} {A : Around} {E : Value → Shared → Prop}
end
end L2
namespace L2
open PySem PySem.Spec PyProof.Rows
section
variable {X : Cx}
end
section
variable {κ : Type} [DecidableEq κ]
end
end L2


set_option maxRecDepth 100000
namespace L2
open PySem PySem.Spec PyProof.Rows

noncomputable def FnAt (P : Program) (w : World) (K : PySem.W.Frag) (mg : Str → Option Value) (base : Heap) (CX : CXT) (x : Str) (k : Nat) (ps : List Str) (sp : Sp) : Prop :=
  ∃ f fd, FnOk P w K mg base CX k f fd ps sp ∧ mg x = some (.ref f) ∧ PySem.W.keepIn K (.ref f) = true ∧ Binds K fd ps [] ∧ ∃ oc od osl, K.lookup f = some ⟨oc, od, .func fd, osl⟩
noncomputable def DefAt (K : PySem.W.Frag) (mg : Str → Option Value) (x : Str) (st : Stmt) : Prop := ∃ f fd, Fun K x x st f fd ∧ mg x = some (.ref f)
class Quiet (CX : CXT) : Prop where
  pass : ∀ (X : Cx), Passes CX X E0
noncomputable instance : Quiet CX0 := ⟨fun _ => pass0⟩
theorem defat_mk {K : PySem.W.Frag} {h : Heap} {mg : Str → Option Value} {x : Str} {st : Stmt} {f : Addr} {oc : Value} {od an : Option Addr} {osl : Array (Option Value)} {kV doc pm cdv ct : Value} (X : K.In h) (G : h.Ns mainGlobals mg)
    (a : PySem.W.nsIn K mainGlobals x = some (some (.ref f)))
    (l : K.lookup f = some ⟨oc, od, .func (PySem.W.fnOf x x (defArgs st) (defBody st) (defScope st) .none kV doc pm an cdv ct), osl⟩) (c : PySem.W.codeIn K cdv x = true) (k : PySem.W.keepIn K (.ref f) = true) : DefAt K mg x st :=
  ⟨f, _, fun_mk l c k, PySem.W.mg_of X G a⟩
section
variable {P : Program} {w : World} {K : PySem.W.Frag} {mg : Str → Option Value} {base : Heap} {CX : CXT}
theorem DefAt.fn {x : Str} {st : Stmt} {N ps : List Str} {k : Nat} {sp : Sp} (F : DefAt K mg x st) (S : FnScope N ps (defScope st))
    (hb : ∀ (kV doc pm : Value) (an : Option Addr) (cdv ct : Value) (us : List Value), us.length = ps.length → bindArgs (PySem.W.fnOf x x (defArgs st) (defBody st) (defScope st) .none kV doc pm an cdv ct) ⟨us, []⟩ = pure (ps.zip us))
    (len : ∀ vs H Q E, sp vs H Q E → vs.length = ps.length)
    (hbody : ∀ (f : Addr) (cdv : Value) (A : Around) (outer : List Env) (s : Shared) (H : Hp) (vs : List V) (Q : VK) (E : XK), Room k (A.deeper (envOfC x (defScope st) s.heap.objs.size f cdv)) → sp vs H Q E →
      ∃ t, PSs (cxOf CX P w K mg base N x (defScope st) f cdv A outer s H E).nox (defBody st) t ∧ t { nx := fun _ H' => Q .non H', rt := Q } (start N vs) H) : FnAt P w K mg base CX x (k + 1) ps sp := by
  obtain ⟨f, fd, F, hm⟩ := F
  have bd := F.binds hb
  have kp := F.kp
  obtain ⟨oc, od, kV, doc, pm, an, cdv, ct, osl, rfl, lk, hcd⟩ := F.ex
  refine ⟨f, _, fn_of lk hcd S len fun A outer s H vs Q E hr hsp => ?_, hm, kp, bd, oc, od, osl, lk⟩
  obtain ⟨t, h, q⟩ := hbody f cdv A outer s H vs Q E hr hsp
  exact ⟨t, h.nox, q⟩
end
section
variable {X : Cx} {CX : CXT} {k n : Nat} {ps : List Str} {sp : Sp} {x : Str} {p pos : Pos} {e : Expr} {es : List Expr} {t : TA}
theorem pe_fn [Quiet CX] (G : FnAt X.prog X.w X.K X.mg X.base CX x k ps sp) (hr : Room n X.A) (hk : k ≤ n) (hg : Gl X x) (ha : PA X (e :: es) t)
    (hdb : (x == ("__debug__" : Str)) = false := by decide) (he : starEach (e :: es) X.env = (false, eval e X.env) :: starEach es X.env := by rfl) (hpl : (backTo pos (starEach es X.env)).any (·.1) = false := by rfl) :
    PE X (.Call (.Name x p) (e :: es) [] pos) (tCall sp [] E0 t) := by
  obtain ⟨f, fd, F, hm, kp, b, _⟩ := G
  exact pe_call F (hr.mono hk) hg hm kp b .nil (Quiet.pass X) ha hdb he hpl
end

noncomputable def ItrS (lo c : Int) (n : Nat) : It := ⟨fun i _ => i < n, fun i H x H' => H' = H ∧ x = .int (lo + i * c), fun i _ => n ≤ i⟩
noncomputable def rcount (lo hi c : Int) : Nat := (Builtin.Range.rangeSize lo hi c).toNat
section
variable {X : Cx} {tg : Expr}
end
end L2


set_option maxRecDepth 100000
namespace L2
open PySem PySem.Spec PyProof.Rows

section
variable {g : Int → Int → V} {C : Int → Int → Prop} {i j : Int} {H : Hp} {Q : VK}
theorem rI0_int : rI0 g (.int i) (.int j) H Q = Q (g i j) H := by
  apply propext
  constructor
  · rintro ⟨a, b, e1, e2, q⟩
    cases e1; cases e2; exact q
  · intro q; exact ⟨i, j, rfl, rfl, q⟩
theorem rI_int : rI C g (.int i) (.int j) H Q = (C i j ∧ Q (g i j) H) := by
  apply propext
  constructor
  · rintro ⟨a, b, e1, e2, q⟩
    cases e1; cases e2; exact q
  · intro q; exact ⟨i, j, rfl, rfl, q⟩
theorem rU_int {f : Int → V} : rU f (.int i) H Q = Q (f i) H := by
  apply propext
  constructor
  · rintro ⟨a, e1, q⟩
    cases e1; exact q
  · intro q; exact ⟨i, rfl, q⟩
theorem ex_bl {b : Bool} {P : Bool → Prop} : (∃ k, V.bl b = .bl k ∧ P k) = P b := by
  apply propext
  constructor
  · rintro ⟨k, e, q⟩
    cases e; exact q
  · intro q; exact ⟨b, rfl, q⟩
theorem ex_sv {v : V} {P : V → Prop} : (∃ u, some (some v) = some (some u) ∧ P u) = P v := by
  apply propext
  constructor
  · rintro ⟨k, e, q⟩
    cases e; exact q
  · intro q; exact ⟨v, rfl, q⟩
theorem rEq_int : rEq (.int i) (.int j) H Q = Q (.bl (decide (i = j))) H := by
  have e : decide (V.int i = V.int j) = decide (i = j) := by
    by_cases h : i = j
    · subst h; simp
    · rw [decide_eq_false h, decide_eq_false (fun q => h (V.int.inj q))]
  unfold rEq
  rw [e]
  apply propext
  exact ⟨fun h => h.2, fun h => ⟨rfl, h⟩⟩
theorem rNe_int : rNe (.int i) (.int j) H Q = Q (.bl (!decide (i = j))) H := by
  have e : decide (V.int i = V.int j) = decide (i = j) := by
    by_cases h : i = j
    · subst h; simp
    · rw [decide_eq_false h, decide_eq_false (fun q => h (V.int.inj q))]
  unfold rNe
  rw [e]
  apply propext
  exact ⟨fun h => h.2, fun h => ⟨rfl, h⟩⟩
theorem rEq_str {a b : Str} : rEq (.str a) (.str b) H Q = Q (.bl (decide (a = b))) H := by
  have e : decide (V.str a = V.str b) = decide (a = b) := by
    by_cases h : a = b
    · subst h; simp
    · rw [decide_eq_false h, decide_eq_false (fun q => h (V.str.inj q))]
  unfold rEq
  rw [e]
  apply propext
  exact ⟨fun h => h.2, fun h => ⟨rfl, h⟩⟩
theorem rNe_str {a b : Str} : rNe (.str a) (.str b) H Q = Q (.bl (!decide (a = b))) H := by
  have e : decide (V.str a = V.str b) = decide (a = b) := by
    by_cases h : a = b
    · subst h; simp
    · rw [decide_eq_false h, decide_eq_false (fun q => h (V.str.inj q))]
  unfold rNe
  rw [e]
  apply propext
  exact ⟨fun h => h.2, fun h => ⟨rfl, h⟩⟩
theorem rEq_bl {a b : Bool} : rEq (.bl a) (.bl b) H Q = Q (.bl (decide (a = b))) H := by
  have e : decide (V.bl a = V.bl b) = decide (a = b) := by
    by_cases h : a = b
    · subst h; simp
    · rw [decide_eq_false h, decide_eq_false (fun q => h (V.bl.inj q))]
  unfold rEq
  rw [e]
  apply propext
  exact ⟨fun h => h.2, fun h => ⟨rfl, h⟩⟩
theorem rNe_bl {a b : Bool} : rNe (.bl a) (.bl b) H Q = Q (.bl (!decide (a = b))) H := by
  have e : decide (V.bl a = V.bl b) = decide (a = b) := by
    by_cases h : a = b
    · subst h; simp
    · rw [decide_eq_false h, decide_eq_false (fun q => h (V.bl.inj q))]
  unfold rNe
  rw [e]
  apply propext
  exact ⟨fun h => h.2, fun h => ⟨rfl, h⟩⟩
end

theorem OpR.imp {X : Cx} {f : Value → Value → Sem Value} {r r' : R2} (h : OpR X f r) (i : ∀ x y H Q, r' x y H Q → r x y H Q) : OpR X f r' :=
  fun pins s σ H x y v u Q I rx ry q => h pins s σ H x y v u Q I rx ry (i _ _ _ _ q)
theorem CallR.imp {X : Cx} {f : Value} {r r' : List V → Hp → VK → Prop} (h : CallR X f r) (i : ∀ xs H Q, r' xs H Q → r xs H Q) : CallR X f r' :=
  fun pins s σ H xs us Q I rs q => h pins s σ H xs us Q I rs (i _ _ _ q)
noncomputable def rAddA (K : PySem.W.Frag) : R2 := fun x y H Q => match x, y with
  | .int i, .int j => Q (.int (i + j)) H
  | .str a, .str b => a.length + b.length ≤ sizeLine ∧ Q (.str (a ++ b)) H
  | .ref l, .ref b => rCat (.ref l) (.ref b) H Q ∨ rCatT K (.ref l) (.ref b) H Q
  | _, _ => False
section
variable {X : Cx}
theorem op_addA : OpR X (binaryOp .Add) (rAddA X.K) := by
  refine OpR.imp (op_add.or (op_add_str.or (op_cat.or op_catT))) fun x y H Q h => ?_
  unfold rAddA at h
  split at h
  · exact .inl ⟨_, _, rfl, rfl, h⟩
  · exact .inr (.inl ⟨_, _, rfl, rfl, h⟩)
  · exact .inr (.inr h)
  · exact h.elim
end
noncomputable def CPowA (i j : Int) : Prop := (0 ≤ j ∧ j ≤ 1000000) ∧ -(2 ^ 64) < i ∧ i < 2 ^ 64
noncomputable def rLenA (K : PySem.W.Frag) : List V → Hp → VK → Prop := fun xs H Q => match xs with
  | [.str z] => z.length ≤ sizeLine ∧ Q (.int z.length) H
  | [.ref p] => ∃ ys, (SqL K H p ys ∨ SqT K H p ys) ∧ Q (.int ys.length) H
  | _ => False
section
variable {X : Cx}
theorem call_lenA : CallR X (.builtin "len") (rLenA X.K) := by
  refine CallR.imp (call_len_seq.or call_len_str) fun xs H Q h => ?_
  unfold rLenA at h
  split at h
  · exact .inr ⟨_, rfl, h.1, h.2⟩
  · obtain ⟨ys, h1, h2⟩ := h
    exact .inl ⟨_, ys, rfl, h1, h2⟩
  · exact h.elim
noncomputable def rMinA : List V → Hp → VK → Prop := fun xs H Q => match xs with
  | [.int i, .int j] => Q (.int (if j < i then j else i)) H
  | _ => False
noncomputable def rMaxA : List V → Hp → VK → Prop := fun xs H Q => match xs with
  | [.int i, .int j] => Q (.int (if i < j then j else i)) H
  | _ => False
theorem call_minA (hc : X.calm = true) : CallR X (.builtin "min") rMinA := by
  refine CallR.imp (call_min2 hc) fun xs H Q h => ?_
  unfold rMinA at h
  split at h
  · exact ⟨_, _, rfl, h⟩
  · exact h.elim
noncomputable def isiF : V → String → Option Bool
  | .int _, "int" => some true
  | .int _, "bool" => some false
  | .int _, "str" => some false
  | .bl _, "int" => some true
  | .bl _, "bool" => some true
  | .str _, "str" => some true
  | .str _, "int" => some false
  | _, _ => none
noncomputable def rIsi (K : PySem.W.Frag) : List V → Hp → VK → Prop := fun xs H Q => match xs with
  | [x, .ty T] => (match isiF x T with
    | some b => Q (.bl b) H
    | none => ∃ t b, TyOf K H x t ∧ PySem.W.kitOne K t (.type T) = some b ∧ Q (.bl b) H)
  | _ => False
end
theorem bt_len : bootBuiltins "len" = some (.builtin "len") := by decide +kernel
theorem bt_min : bootBuiltins "min" = some (.builtin "min") := by decide +kernel
section
variable {K : PySem.W.Frag} {H : Hp} {Q : VK}
theorem rAddA_int {i j : Int} : rAddA K (.int i) (.int j) H Q = Q (.int (i + j)) H := rfl
theorem rAddA_str {i j : Str} : rAddA K (.str i) (.str j) H Q = (i.length + j.length ≤ sizeLine ∧ Q (.str (i ++ j)) H) := rfl
theorem rLenA_str {z : Str} : rLenA K [.str z] H Q = (z.length ≤ sizeLine ∧ Q (.int z.length) H) := rfl
theorem rLenA_ref {p : Addr} : rLenA K [.ref p] H Q = (∃ ys, (SqL K H p ys ∨ SqT K H p ys) ∧ Q (.int ys.length) H) := rfl
theorem rIsi_ii {i : Int} : rIsi K [.int i, .ty "int"] H Q = Q (.bl true) H := rfl
theorem rIsi_ib {i : Int} : rIsi K [.int i, .ty "bool"] H Q = Q (.bl false) H := rfl
theorem rIsi_is {i : Int} : rIsi K [.int i, .ty "str"] H Q = Q (.bl false) H := rfl
theorem rIsi_bi {i : Bool} : rIsi K [.bl i, .ty "int"] H Q = Q (.bl true) H := rfl
theorem rIsi_bb {i : Bool} : rIsi K [.bl i, .ty "bool"] H Q = Q (.bl true) H := rfl
theorem rIsi_ss {i : Str} : rIsi K [.str i, .ty "str"] H Q = Q (.bl true) H := rfl
theorem rIsi_si {i : Str} : rIsi K [.str i, .ty "int"] H Q = Q (.bl false) H := rfl
theorem rMinA_int {i j : Int} : rMinA [.int i, .int j] H Q = Q (.int (if j < i then j else i)) H := rfl
theorem rMaxA_int {i j : Int} : rMaxA [.int i, .int j] H Q = Q (.int (if i < j then j else i)) H := rfl
end
theorem cxOf_K {CX : CXT} {P : Program} {w : World} {K : PySem.W.Frag} {mg : Str → Option Value} {base : Heap} {N : List Str} {qual : Str} {scope : Scope} {f : Addr} {cd : Value} {A : Around} {outer : List Env} {s : Shared} {H : Hp} {E : XK} :
    (cxOf CX P w K mg base N qual scope f cd A outer s H E).K = K := rfl
end L2


set_option maxRecDepth 100000
namespace L2
open PySem PySem.Spec PyProof.Rows

section
variable {ta : TA} {tl : TE} {K : PySem.W.Frag} {g : TG} {tb : TS} {D : Ends} {σ : St} {H : Hp}
end
theorem law_fin {P : Program} {w : World} {K : PySem.W.Frag} {mg : Str → Option Value} {CX : CXT} {k : Nat} {fa : Addr} {x nm : Str} {st : Stmt} {sp : Sp} (hmg : mg nm = some (.ref fa)) (D : DefAt K mg nm st)
    (hb : ∀ (kV doc pm : Value) (an : Option Addr) (cdv ct : Value) (us : List Value), us.length = ([x] : List Str).length → bindArgs (PySem.W.fnOf nm nm (defArgs st) (defBody st) (defScope st) .none kV doc pm an cdv ct) ⟨us, []⟩ = pure (([x] : List Str).zip us))
    (ok : ∀ base : Heap, FnAt P w K mg base CX nm k [x] sp) :
    ∃ fd : FuncData, (∀ (s : Shared) (u : Value), BindsTo s fd ⟨[u], []⟩ [(x, u)]) ∧ ∀ base : Heap, K.In base → base.Ns mainGlobals mg → FnOk P w K mg base CX k fa fd [x] sp := by
  obtain ⟨f, fd, F, hm⟩ := D
  rw [hmg] at hm
  cases hm
  obtain ⟨oc, od, kV, doc, pm, an, cdv, ct, osl, e, lk, hcd⟩ := F.ex
  refine ⟨fd, fun s u => ?_, fun base _ _ => ?_⟩
  · rw [e]
    exact .of_eq (hb kV doc pm an cdv ct [u] rfl)
  · obtain ⟨f', fd', h, hm', _, _, oc', od', osl', lk'⟩ := ok base
    rw [hmg] at hm'
    cases hm'
    rw [lk] at lk'
    cases lk'
    exact h
noncomputable def spLaw (K : PySem.W.Frag) : Sp := fun vs H Q _ => match vs with
  | [.ref a] => ∃ ns : List Int, SqL K H a (ns.map V.int) ∧ ns.length ≤ 63 ∧ Only H ∧ ∀ H', Q (.bl true) H'
  | _ => False
theorem law_walk {l : PySem.W.OpenLaw} {k : Nat} {q : Program} {loose : List Str} {XP : (Str → Option Value) → Heap → Prop} {YP : World → Heap → Prop} {d : DefRec} {K : Params → PySem.W.Frag} {x : Str} (hn : l.most = some 63) (hdf : d.params.defaults = [])
    (hr : Room k callerA) (hY : ∀ (w : World) (h : Heap), YP w h → (K w.params).In h)
    (F : ∀ (w : World) (mg : Str → Option Value) (fa : Addr) (h : Heap), (K w.params).In h → h.Ns mainGlobals mg → mg d.name = some (.ref fa) →
      ∃ fd : FuncData, (∀ (s : Shared) (u : Value), BindsTo s fd ⟨[u], []⟩ [(x, u)]) ∧ ∀ base : Heap, (K w.params).In base → base.Ns mainGlobals mg → FnOk l.prog w (K w.params) mg base CX0 k fa fd [x] (spLaw (K w.params))) :
    PySem.W.WalkO q loose XP YP l.row.toRowW d [] (fun f vs => PySem.call f vs) :=
  L2.walk_ofK (n := 63) (CX := CX0) (sp := spLaw) hn (by decide) hdf hr hY F (fun K H a ns hl hO hS => ⟨ns, hS, hl, hO, fun _ => rfl⟩) fun _ _ _ _ z => z
end L2


set_option maxRecDepth 100000
namespace L2
open PySem PySem.Spec PyProof.Rows

noncomputable def Cx.comp (X : Cx) (scope : Scope) (cl : List (Str × Addr)) (C : Addr) (N : List Str) (s : Shared) (H : Hp) (ex : List Addr) : Cx :=
  { prog := X.prog, w := X.w, K := X.K, mg := X.mg, base := X.base, A := X.A, N := N, s₀ := s, H₀ := H, env := compEnvC scope cl C X.env, outer := X.stack, stack := X.stack, ex := ex, fn := fun _ => false, calm := X.calm, pn := [], xe := fun _ _ => False }

theorem closure_ok {env : Env} {scope : Scope} (h : ∀ y ∈ scope.names, y.2 = .free → ∃ c, env.cells.lookup y.1 = some c) :
    ∃ cl, closureFor scope env = pure cl ∧ (∀ y c, cl.lookup y = some c → env.cells.lookup y = some c) ∧ ∀ y ∈ scope.names, y.2 = .free → ∃ c, cl.lookup y.1 = some c := by
  have key : ∀ (l : List (Str × NameKind)) (acc : List (Str × Addr)), (∀ y ∈ l, y.2 = .free → ∃ c, env.cells.lookup y.1 = some c) → (∀ y c, acc.lookup y = some c → env.cells.lookup y = some c) →
      ∃ cl, (forIn l acc fun (x : Str × NameKind) (cs : List (Str × Addr)) => if (x.2 == NameKind.free) = true then do let a ← cellOf env x.1; pure (ForInStep.yield ((x.1, a) :: cs)) else pure (ForInStep.yield cs)) = (pure cl : Sem (List (Str × Addr))) ∧
        (∀ y c, cl.lookup y = some c → env.cells.lookup y = some c) ∧ (∀ y c, acc.lookup y = some c → ∃ c, cl.lookup y = some c) ∧ ∀ y ∈ l, y.2 = .free → ∃ c, cl.lookup y.1 = some c := by
    intro l
    induction l with
    | nil => intro acc _ ha; exact ⟨acc, rfl, ha, fun y c e => ⟨c, e⟩, fun y hy => nomatch hy⟩
    | cons x r ih =>
      intro acc hl ha
      obtain ⟨n, k⟩ := x
      by_cases hk : k = .free
      · subst hk
        obtain ⟨c, hc⟩ := hl (n, .free) List.mem_cons_self rfl
        have ha' : ∀ y d, ((n, c) :: acc).lookup y = some d → env.cells.lookup y = some d := fun y d e => by
          simp only [List.lookup_cons] at e
          cases q : y == n with
          | true => rw [q] at e; cases e; rw [beq_iff_eq.mp q]; exact hc
          | false => rw [q] at e; exact ha y d e
        obtain ⟨cl, e, h1, h2, h3⟩ := ih ((n, c) :: acc) (fun y hy => hl y (List.mem_cons_of_mem _ hy)) ha'
        have top : ∃ d, cl.lookup n = some d := h2 n c (by simp [List.lookup_cons])
        refine ⟨cl, ?_, h1, fun y d q => ?_, fun y hy hf => ?_⟩
        · rw [List.forIn_cons]
          have ec : cellOf env n = pure c := by unfold cellOf; rw [hc]
          show ((if (NameKind.free == NameKind.free) = true then (do let a ← cellOf env n; pure (ForInStep.yield ((n, a) :: acc))) else _) >>= _) = _
          rw [if_pos (by decide), ec]
          exact e
        · cases z : y == n with
          | true => rw [beq_iff_eq.mp z]; exact top
          | false => exact h2 y d (by simp only [List.lookup_cons, z]; exact q)
        · rcases List.mem_cons.mp hy with rfl | hy
          · exact top
          · exact h3 y hy hf
      · have hb : (k == NameKind.free) = false := by simpa using hk
        obtain ⟨cl, e, h1, h2, h3⟩ := ih acc (fun y hy => hl y (List.mem_cons_of_mem _ hy)) ha
        refine ⟨cl, ?_, h1, h2, fun y hy hf => ?_⟩
        · rw [List.forIn_cons]
          show ((if (k == NameKind.free) = true then _ else pure (ForInStep.yield acc)) >>= _) = _
          rw [hb, if_neg Bool.false_ne_true]
          exact e
        · rcases List.mem_cons.mp hy with rfl | hy
          · exact absurd hf hk
          · exact h3 y hy hf
  obtain ⟨cl, e, h1, _, h3⟩ := key scope.names [] h (fun y c q => by simp at q)
  refine ⟨cl, ?_, h1, h3⟩
  unfold closureFor
  exact (bind_congr (fun _ => rfl)).trans (by rw [e]; rfl)

theorem relabel_look {scope : Scope} {env : Env} {x : Str} {k : NameKind} (h : (relabel scope env).names.lookup x = some k) : scope.names.lookup x = some k ∨ (scope.names.lookup x = some .free ∧ k = .cell) := by
  unfold relabel at h
  have key : ∀ l : List (Str × NameKind), (l.map fun (n, k) => if (k == NameKind.free && env.scope.kind == .function && env.kindOf n == some .cell) then (n, NameKind.cell) else (n, k)).lookup x = some k → l.lookup x = some k ∨ (l.lookup x = some .free ∧ k = .cell) := by
    intro l
    induction l with
    | nil => intro h; simp at h
    | cons y r ih =>
      obtain ⟨n, j⟩ := y
      intro h
      rw [List.map_cons] at h
      simp only [List.lookup_cons]
      cases q : x == n with
      | true =>
        by_cases hc : (j == NameKind.free && env.scope.kind == .function && env.kindOf n == some .cell) = true
        · simp only [hc, if_true, List.lookup_cons, q] at h
          cases h
          have : j = .free := by
            simp only [Bool.and_eq_true, beq_iff_eq] at hc
            exact hc.1.1
          subst this
          exact .inr ⟨rfl, rfl⟩
        · have hc' : (j == NameKind.free && env.scope.kind == .function && env.kindOf n == some .cell) = false := by simpa using hc
          simp only [hc', Bool.false_eq_true, if_false, List.lookup_cons, q] at h
          exact .inl h
      | false =>
        by_cases hc : (j == NameKind.free && env.scope.kind == .function && env.kindOf n == some .cell) = true
        · simp only [hc, if_true, List.lookup_cons, q] at h
          exact ih h
        · have hc' : (j == NameKind.free && env.scope.kind == .function && env.kindOf n == some .cell) = false := by simpa using hc
          simp only [hc', Bool.false_eq_true, if_false, List.lookup_cons, q] at h
          exact ih h
  exact key _ h

theorem lt_ne {h : Heap} {b n : Addr} {o : Obj} (e : h.get? b = some o) (hn : h.objs.size ≤ n) : b ≠ n := Nat.ne_of_lt (Nat.lt_of_lt_of_le (Heap.lt_size e) hn)
structure CScope (X : Cx) (scope : Scope) (N : List Str) (nv : Nat) (ix : List Nat) : Prop where
  kind : scope.kind = .function
  nocell : ∀ y ∈ scope.names, y.2 ≠ .cell
  names : ∀ y ∈ scope.names, y.2 = .local → scope.names.lookup y.1 = some .local
  fre : ∀ y ∈ scope.names, y.2 = .free → X.env.kindOf y.1 = some .cell ∨ X.env.kindOf y.1 = some .free
  len : N.length = nv + ix.length
  at_ : ∀ j y, N[nv + j]? = some y → ∃ i, ix[j]? = some i ∧ X.N[i]? = some y ∧ (X.env.kindOf y = some .cell ∨ X.env.kindOf y = some .free) ∧ scope.names.lookup y = some .free
noncomputable def compSt (nv : Nat) (ix : List Nat) (σ : St) : St := List.replicate nv none ++ ix.map fun i => (σ[i]?).join

section
variable {X : Cx} {pins : List (Addr × Obj)} {σ : St} {H : Hp} {s : Shared} {scope : Scope} {N : List Str} {nv : Nat} {ix : List Nat}
theorem comp_start {h1 : Heap} {tk : Nat} {cl : List (Str × Addr)} {fp : List Addr} {C D : Addr} {oD : Obj} (S : CScope X scope N nv ix) (I : Inv X pins σ H s) (hcl : ∀ y c, cl.lookup y = some c → X.env.cells.lookup y = some c)
    (hcl2 : ∀ y ∈ scope.names, y.2 = .free → ∃ c, cl.lookup y.1 = some c) (hfp : ∀ b ∈ fp, FpOk X pins H b) (hob : ∀ b ∈ fp, b < s.heap.objs.size)
    (hC : s.heap.objs.size ≤ C) (hD : s.heap.objs.size ≤ D) (hDC : D ≠ C) (old : ∀ b o, s.heap.get? b = some o → h1.get? b = some o) {m : Str → Option Value} (hm : h1.Ns C m) (hoD : h1.get? D = some oD) (hdat : ∀ v, oD.data ≠ .cell v) :
    Inv (X.comp scope cl C N s H fp) [(D, oD)] (compSt nv ix σ) H { s with heap := h1, toks := tk } := by
  refine ⟨⟨I.ok.mod, S.kind, I.ok.glob, I.ok.blt, hC, fun x y c e1 e2 => I.ok.inj x y c (hcl x c e1) (hcl y c e2), fun x hx => ?_, fun _ _ z => absurd z Bool.false_ne_true, I.ok.hd, I.ok.frames, .inl rfl, fun b hb => ⟨fun z => ?_, fun x c e => (hfp b hb).2.2.2.2.1 x c (hcl x c e)⟩, I.bs,
    Nat.le_trans I.ok.bsz I.sz, fun b o e hb => ?_, fun b hb z => ?_, I.stack, I.stkFree⟩, rfl, I.bare, Un.kept old, ⟨m, hm, fun i x v e1 e2 e3 => ?_⟩, fun x c e => ?_, I.hok.fresh hC, fun x c e => I.freeC x c (hcl x c e), fun p hp => ?_, I.hok.kept old, ?_⟩
  · have hx' : (relabel scope X.env).names.lookup x = some .cell ∨ (relabel scope X.env).names.lookup x = some .free := hx
    have fr : scope.names.lookup x = some .free := by
      rcases hx' with z | z
      · rcases relabel_look z with q | q
        · exact absurd rfl (S.nocell _ (PySem.mem_of_lookup q))
        · exact q.1
      · rcases relabel_look z with q | q
        · exact q
        · cases q.2
    exact hcl2 (x, .free) (PySem.mem_of_lookup fr) rfl
  · exact Nat.ne_of_lt (Nat.lt_of_lt_of_le (hob b hb) hC) z
  · rcases (hfp b hb).2.2.2.1 with z | z
    · exact I.ok.noex b o e z
    · exact lt_ne e (Nat.le_trans I.ok.bsz z) rfl
  · rcases List.mem_cons.mp (I.stkSub b z) with q | q
    · exact (hfp b hb).2.1 q
    · exact (hfp b hb).2.2.1 q
  · have e1' : N[i]? = some x := e1
    by_cases hi : i < nv
    · have e2' : (compSt nv ix σ)[i]? = some (some v) := e2
      unfold compSt at e2'
      rw [List.getElem?_append_left (by simpa using hi), List.getElem?_replicate, if_pos hi] at e2'
      cases e2'
    · obtain ⟨j, rfl⟩ : ∃ j, i = nv + j := ⟨i - nv, by omega⟩
      obtain ⟨k, hk, hN, hkd, hsc⟩ := S.at_ j x e1'
      have e2' : (compSt nv ix σ)[nv + j]? = some (some v) := e2
      unfold compSt at e2'
      rw [List.getElem?_append_right (by simp), List.length_replicate, Nat.add_sub_cancel_left, List.getElem?_map, hk] at e2'
      have e4 : σ[k]? = some (some v) := by
        have e5 : (σ[k]?).join = some v := by simpa using e2'
        cases q : σ[k]? with
        | none => rw [q] at e5; cases e5
        | some z => rw [q] at e5; have : z = some v := e5; rw [this]
      obtain ⟨m0, _, hl⟩ := I.loc
      have vis : Vis X.env.scope x := by
        rcases hkd with z | z
        · exact .inr (.inl z)
        · exact .inr (.inr z)
      obtain ⟨u, r, l⟩ := hl k x v hN e4 vis
      refine ⟨u, r, ?_⟩
      rcases l with ⟨z, _⟩ | ⟨_, c, hc, hcell⟩
      · rcases hkd with q | q <;> rw [q] at z <;> cases z
      · obtain ⟨c', hc'⟩ := hcl2 (x, .free) (PySem.mem_of_lookup hsc) rfl
        have := hcl x c' hc'
        rw [hc] at this
        cases this
        refine .inr ⟨?_, c, hc', hcell.keeps old⟩
        rcases e3 with z | z | z
        · rcases relabel_look z with q | q
          · rw [hsc] at q; cases q
          · cases q.2
        · exact .inl z
        · exact .inr z
  · obtain ⟨v, q⟩ := I.cell x c (hcl x c e)
    exact ⟨v, q.keeps old⟩
  · have hp' : p ∈ [(D, oD)] := hp
    have e : p = (D, oD) := by simpa using hp'
    subst e
    refine ⟨hoD, I.hok.fresh hD, hDC, fun z => ?_, hdat⟩
    rcases List.mem_cons.mp (I.stkSub D z) with q | q
    · exact Nat.ne_of_gt (Nat.lt_of_lt_of_le I.lt hD) q
    · exact I.nofs hD q
  · show (compSt nv ix σ).length = N.length
    unfold compSt
    rw [List.length_append, List.length_replicate, List.length_map, S.len]
theorem comp_end {cl : List (Str × Addr)} {fp : List Addr} {C D : Addr} {its : List Value} {ys : List V} {n : Nat} {σ' : St} {H' : Hp} {s' : Shared} (I : Inv X pins σ H s) (hfp : ∀ b ∈ fp, FpOk X pins H b) (hD : s.heap.objs.size ≤ D)
    (J : Inv (X.comp scope cl C N s H fp) [(D, { cls := .type "list", data := .seq its.toArray n })] σ' H' s') (r : Vals ys its) (hl : ys.length ≤ sizeLine) : Inv X pins σ (upd H' D (.lst ys)) s' := by
  obtain ⟨eD, fD, _⟩ := J.pin (D, { cls := .type "list", data := .seq its.toArray n }) (by simp [Cx.comp])
  have U : Un (frs X.stack) fp H H' s.heap s'.heap := J.base
  have neD : ∀ b o, s.heap.get? b = some o → b ≠ D := fun b o e => lt_ne e hD
  refine I.call' (ch := fp) J.os ⟨U.keep, U.slot, fun b o e n hx => ?_, U.there, fun b xs e => ?_, fun b o xs e => ?_, fun b ps e => ?_⟩ (fun b u e => ?_) J.bare fun b hb => (hfp b hb).2.2.2 |> fun z => ⟨z.1, (hfp b hb).2.1, z.2.1, z.2.2⟩
  · rw [upd_ne (neD b o e)]; exact U.free b o e n hx
  · have q := U.tups b xs e
    rw [upd_ne (ne_of_none q fD)]; exact q
  · have q := U.frzs b o xs e
    rw [upd_ne (ne_of_none q fD)]; exact q
  · obtain ⟨more, q⟩ := U.tbls b ps e
    exact ⟨more, by rw [upd_ne (ne_of_none q fD)]; exact q⟩
  · by_cases hb : b = D
    · subst hb
      rw [upd_same] at e
      cases e
      exact ⟨hl, its, n, r, eD⟩
    · rw [upd_ne hb] at e
      exact (J.hok b u e).stay (fun c v _ q => q) (fun c q => by rw [upd_ne (ne_of_none q fD)]; exact q) fun c xs q => by rw [upd_ne (ne_of_none q fD)]; exact q
end

section
variable {prog : Program} {w : World} {A : Around} {E : Value → Shared → Prop} {R : Result → Shared → Prop} {s : Shared}
theorem compLoop_own {elt target iter : Expr} {ifs : List Expr} {scope : Scope} {pos : Pos} {it acc : Value} {env : Env} (I : Nat → Shared → Prop)
    (turn : ∀ n s, I n s → wpAny (model prog w) A (pyNext it) (fun r s₁ => match r with
      | none => R (.ok .next) s₁
      | some v => wpAny (model prog w) A (letOwnedTupleGo target it v) (fun _ s₀ => wpAny (model prog w) A (assign target env v) (fun _ s₂ =>
          wpAny (model prog w) A (forIn ifs true fun c r => if r = true then do let ok ← isTrue c env (eval c env); pure (ForInStep.yield ok) else pure (ForInStep.yield r)) (fun ok s₃ =>
            if ok = true then wpAny (model prog w) A (eval elt env) (fun x s₄ =>
              wpAny (model prog w) A (call (.builtin "list.append") [acc, x]) (fun _ s₅ => ∃ m, m < n ∧ I m s₅) (fun _ _ => False) s₄) (fun _ _ => False) s₃
            else ∃ m, m < n ∧ I m s₃) (fun _ _ => False) s₂) (fun _ _ => False) s₀) (fun _ _ => False) s₁) (fun _ _ => False) s)
    (n : Nat) (h : I n s) :
    codeAny (model prog w) A (.compLoop (.ListComp elt [⟨target, iter, ifs, 0⟩] scope pos) 0 it acc env) R s := by
  refine codeAny_loop rfl I (fun n s hI => ?_) n h
  show wpAny _ A ((compTurn (.ListComp elt [⟨target, iter, ifs, 0⟩] scope pos) 0 it acc env).onRaise (fun x => do noteFrame x env; theTreesLotGoes x)) _ _ s
  refine wpAny_noted ?_
  rw [compTurn_list]
  refine wpAny_bind (wpAny_standAt (wpAny_bind (wpAny_mono (turn n s hI) (fun r s₁ h₁ => ?_) fun _ _ h' => h'.elim)))
  cases r with
  | none => exact wpAny_pure h₁
  | some v =>
    refine wpAny_bind (wpAny_mono h₁ (fun _ s₀ h₀ => ?_) fun _ _ h' => h'.elim)
    refine wpAny_bind (wpAny_mono h₀ (fun _ s₂ h₂ => wpAny_bind (wpAny_mono h₂ (fun ok s₃ h₃ => ?_) fun _ _ h' => h'.elim)) fun _ _ h' => h'.elim)
    cases ok with
    | false => exact wpAny_pure ⟨rfl, h₃⟩
    | true =>
      exact wpAny_bind (wpAny_bind (wpAny_mono h₃ (fun x s₄ h₄ => wpAny_bind (wpAny_mono h₄ (fun _ s₅ h₅ => wpAny_pure (wpAny_pure ⟨rfl, h₅⟩)) fun _ _ h' => h'.elim)) fun _ _ h' => h'.elim))
end

noncomputable def tYes : TT := fun _ H Q => Q true H
noncomputable def compR (J : It) (g : TG) (tt : TT) (te : TE) (σ₀ : St) (H1 : Hp) (Q : List V → Hp → Prop) : Prop :=
  ∃ W : Nat → Nat → List V → St → Hp → Prop, (∃ m, W 0 m [] σ₀ H1) ∧ ∀ i m ys σ' H', W i m ys σ' H' →
    (J.stop i H' ∧ Q ys H') ∨ (J.go i H' ∧ ys.length < sizeLine ∧ ∃ N : List V → St → Hp → Prop, (∀ ys' σ'' H'', N ys' σ'' H'' → ∃ m', m' < m ∧ W (i + 1) m' ys' σ'' H'') ∧
      ∀ x H'', J.yld i H' x H'' → g x σ' H'' fun σ2 H2 => tt σ2 H2 fun b H3 => if b = true then te σ2 H3 fun y H4 => N (ys ++ [y]) σ2 H4 else N ys σ2 H3)
noncomputable def tComp (nv : Nat) (ix : List Nat) (wi : TI) (g : TG) (tt : TT) (te : TE) : TE := fun σ H Q => wi σ H fun J H1 => compR J g tt te (compSt nv ix σ) H1 fun ys H' => ys.length ≤ sizeLine ∧ ∀ D, H' D = none → Q (.ref D) (upd H' D (.lst ys))

section
variable {X : Cx} {tg elt iter : Expr} {ifs : List Expr} {scope : Scope} {N : List Str} {nv : Nat} {ix : List Nat} {pos spos : Pos} {wi : TI} {g : TG} {tt : TT} {te : TE}
noncomputable def PTs (X : Cx) (ifs : List Expr) (tt : TT) : Prop :=
  ∀ (pins : List (Addr × Obj)) (s : Shared) (σ : St) (H : Hp) (Q : Bool → Hp → Prop), Inv X pins σ H s → tt σ H Q →
    wpAny (model X.prog X.w) X.A (forIn ifs true fun c r => if r = true then do let ok ← isTrue c X.env (eval c X.env); pure (ForInStep.yield ok) else pure (ForInStep.yield r)) (TP X pins σ Q) X.xe s
theorem pts_one {c : Expr} (h : PT X c tt) : PTs X [c] tt := fun pins s σ H Q I hw => wpAny_tests_one (h pins s σ H Q I hw)

theorem comp_core {use : Option (Value → Sem Unit)} {Qv : Value → Shared → Prop} {pins : List (Addr × Obj)} {s : Shared} {σ : St} {H : Hp} {Q : List V → Hp → Prop} (hc : X.calm = true) (S : CScope X scope N nv ix) (hi : PI X tg iter wi)
    (hg : ∀ cl C s H ex, PG (X.comp scope cl C N s H ex) tg g) (ht : ∀ cl C s H ex, PTs (X.comp scope cl C N s H ex) ifs tt) (he : ∀ cl C s H ex, PE (X.comp scope cl C N s H ex) elt te) (I : Inv X pins σ H s)
    (h : wi σ H fun J H1 => compR J g tt te (compSt nv ix σ) H1 fun ys H' => ys.length ≤ sizeLine ∧ Q ys H')
    (fin : ∀ ys D C H' s' (s2 : Shared) (σ2 : St), Q ys H' → H' D = none → D ≠ C → Inv X pins σ (upd H' D (.lst ys)) s' → (∃ m, s'.heap.Ns C m) → (∀ H'', H'' C = none → FpOk X pins H'' C) → H' C = none → compPost (model X.prog X.w) X.A X.xe use Qv (.ref D) C (.ok .next) s')
    (hs : ∀ x, foldedSetIterable iter X.env x = pure x) :
    wpAny (model X.prog X.w) X.A (comprehension (.ListComp elt [⟨tg, iter, ifs, 0⟩] scope pos) scope X.env (firstIterPos [⟨tg, iter, ifs, 0⟩] pos) (newList []) false (eval iter X.env) use) Qv X.xe s := by
  obtain ⟨cl, hclos, hcl, hcl2⟩ := closure_ok (env := X.env) (scope := scope) fun y hy hf => I.ok.has y.1 (S.fre y hy hf)
  refine wpAny_comprehension_free (use := use) rfl hs hclos S.kind S.names (thn (hi pins s σ H _ I h) fun v s1 h1 => thn h1 fun itv s2 h2 => ?_)
  obtain ⟨it, fp, tn, J, H2, e, I2, T, st2, f2, W, ⟨m0, w0⟩, turn⟩ := h2
  subst e
  refine wpAny_newObj_type (wpAny_newFunctionEnv S.nocell (by intro y hy; simp at hy) (fun h₁ hns₁ hsb₁ => ?_) S.kind)
  dsimp only at hns₁ hsb₁ ⊢
  generalize hH2 : s2.heap.push { cls := .type "list", dict := none, data := .seq ([] : List Value).toArray } = G2 at hns₁ hsb₁ ⊢
  have hC : G2.objs.size = s2.heap.objs.size + 1 := by rw [← hH2, Heap.size_push]
  have hDC : s2.heap.objs.size ≠ G2.objs.size := by rw [hC]; exact Nat.ne_of_lt (Nat.lt_succ_self _)
  have old : ∀ b o, s2.heap.get? b = some o → h₁.get? b = some o := fun b o e => hsb₁.extBut b o (lt_ne e (by rw [hC]; exact Nat.le_succ _)) (Heap.get?_push_of_some _ (hH2 ▸ Heap.get?_push_of_some _ e))
  have hacc : h₁.get? s2.heap.objs.size = some { cls := .type "list", data := .seq ([] : List Value).toArray 0 } := hsb₁.extBut _ _ hDC (Heap.get?_push_of_some _ (hH2 ▸ Heap.get?_push_size _ rfl))
  have hob : ∀ b ∈ fp, b < s2.heap.objs.size := fun b hb => by
    obtain ⟨o, e, _⟩ := T.obj _ _ st2 b hb
    exact Heap.lt_size e
  have hCle : s2.heap.objs.size ≤ G2.objs.size := by rw [hC]; exact Nat.le_succ _
  have I4 : ∀ tk, Inv (X.comp scope cl G2.objs.size N s2 H2 fp) [(s2.heap.objs.size, { cls := .type "list", data := .seq ([] : List Value).toArray 0 })] (compSt nv ix σ) H2 { s2 with heap := h₁, toks := tk } := fun tk =>
    comp_start S I2 hcl hcl2 f2 hob hCle (Nat.le_refl _) hDC old hns₁ hacc (fun v z => by cases z)
  have hst₁ : tn 0 h₁ := T.keep _ _ _ st2 fun b _ o e => old b o e
  have stat : ∀ {H' : Hp} {pns : List (Addr × Obj)}, (∀ p ∈ pns, p.1 = s2.heap.objs.size) → (∀ b ∈ fp, H' b = none) → ∀ b ∈ fp, FpOk (X.comp scope cl G2.objs.size N s2 H2 fp) pns H' b := fun {H' pns} hp hn b hb => by
    obtain ⟨f0, f1, f3, f4, f5, f6⟩ := f2 b hb
    have hlt := hob b hb
    refine ⟨hn b hb, fun z => ?_, fun z => ?_, .inl hb, fun x c e => f5 x c (hcl x c e), fun p hp' z => ?_⟩
    · exact Nat.ne_of_lt (Nat.lt_of_lt_of_le hlt hCle) z
    · rcases List.mem_cons.mp (I2.stkSub b z) with q | q
      · exact f1 q
      · exact f3 q
    · have hp'' : p ∈ pns := by simpa [Cx.comp] using hp'
      exact Nat.ne_of_gt (by rw [hp p hp'']; exact hlt) z
  have loop : ∀ s₃ : Shared, s₃ = { s2 with heap := h₁, toks := s2.toks + ([] : List (Str × Value)).length } →
      codeAny (model X.prog X.w) X.A (.compLoop (.ListComp elt [⟨tg, iter, ifs, 0⟩] scope pos) 0 (.ref it) (.ref s2.heap.objs.size) (compEnvC scope cl G2.objs.size X.env))
        (compPost (model X.prog X.w) X.A X.xe use Qv (.ref s2.heap.objs.size) G2.objs.size) s₃ := by
    rintro s₃ rfl
    refine compLoop_own (fun n s' => ∃ i ys its σ' H', Inv (X.comp scope cl G2.objs.size N s2 H2 fp) [(s2.heap.objs.size, { cls := .type "list", data := .seq its.toArray its.length })] σ' H' s' ∧ tn i s'.heap ∧ (∀ b ∈ fp, H' b = none) ∧ Vals ys its ∧ W i n ys σ' H') ?_ m0
      ⟨0, [], [], _, H2, I4 _, hst₁, fun b hb => (f2 b hb).1, .nil, w0⟩
    rintro n s' ⟨i, ys, its, σ', H', I', st', fr', rv, w'⟩
    have pin1 : ∀ {o : Obj}, ∀ p ∈ [(s2.heap.objs.size, o)], p.1 = s2.heap.objs.size := fun {o} p hp => by
      exact congrArg Prod.fst (List.mem_singleton.mp hp)
    rcases turn i n ys σ' H' w' with ⟨stop, hl, qn⟩ | ⟨go, hlen, Nx, hN, step⟩
    · refine thn (T.done (X.comp scope cl G2.objs.size N s2 H2 fp) rfl rfl rfl hc i _ s' σ' H' (fun _ _ => False) I' (stat pin1 fr') st' stop) fun r s4 ⟨hr, I5⟩ => ?_
      subst hr
      obtain ⟨m5, hm5, _⟩ := I5.loc
      have fD := (I5.pin (s2.heap.objs.size, { cls := .type "list", data := .seq its.toArray its.length }) (List.mem_append_right _ (by simp))).2.1
      exact fin ys _ _ H' s4 s2 σ' qn fD hDC (comp_end I2 f2 (Nat.le_refl _) I5 rv hl) ⟨m5, hm5⟩ (fun H'' hn => I2.fpOk hCle hn) I5.free
    · refine thn (T.item (X.comp scope cl G2.objs.size N s2 H2 fp) rfl rfl rfl hc i _ s' σ' H' (fun _ _ => False) I' (stat pin1 fr') st' go) fun r s4 ⟨u, hr, h4⟩ => ?_
      subst hr
      refine thn h4 fun _ s5 ⟨x, H5, I5, r5, y5, st5, fr5⟩ => ?_
      have I5' := I5.pinned (stat pin1 fr5) (T.obj _ _ st5)
      refine thn (hg _ _ _ _ _ _ s5 σ' H5 x u _ I5' r5 (step x H5 y5)) fun _ s6 ⟨σ6, H6, I6, q6⟩ => ?_
      refine thn (ht _ _ _ _ _ _ s6 σ6 H6 _ I6 q6) fun b s7 ⟨H7, I7, q7⟩ => ?_
      have back : ∀ {σ8 : St} {H8 : Hp} {s8 : Shared}, Inv (X.comp scope cl G2.objs.size N s2 H2 fp) ([(s2.heap.objs.size, { cls := .type "list", data := .seq its.toArray its.length })] ++ pinsAt fp s5.heap) σ8 H8 s8 → tn (i + 1) s8.heap ∧ ∀ b ∈ fp, H8 b = none := fun {σ8 H8 s8} J =>
        ⟨T.keep _ _ _ st5 fun b hb o e => (J.pin (b, o) (List.mem_append_right _ (List.mem_append_right _ (mem_pinsAt hb e)))).1, fun b hb => by
          obtain ⟨o, e, d⟩ := T.obj _ _ st5 b hb
          exact (J.pin (b, o) (List.mem_append_right _ (List.mem_append_right _ (mem_pinsAt hb e)))).2.1⟩
      cases b with
      | false =>
        rw [if_neg Bool.false_ne_true] at q7
        obtain ⟨m', hm, w7⟩ := hN _ _ _ q7
        exact ⟨m', hm, i + 1, ys, its, σ6, H7, I7.unpinned, (back I7).1, (back I7).2, rv, w7⟩
      | true =>
        rw [if_pos rfl] at q7
        refine thn (he _ _ _ _ _ _ s7 σ6 H7 _ I7 q7) fun y s8 ⟨yv, H8, I8, r8, q8⟩ => ?_
        obtain ⟨eD, fD, nD, nfD, dD⟩ := I8.pin (s2.heap.objs.size, { cls := .type "list", data := .seq its.toArray its.length }) (List.mem_append_right _ (by simp))
        refine append_at (hsz := by rw [List.size_toArray, ← rv.length]; exact Nat.le_of_lt hlen) eD fun h₅ hs₅ hD₅ => ?_
        obtain ⟨m', hm, w8⟩ := hN _ _ _ q8
        have fpD : s2.heap.objs.size ∉ fp := fun z => Nat.lt_irrefl _ (hob _ z)
        have I9 : Inv (X.comp scope cl G2.objs.size N s2 H2 fp) [] σ6 H8 s8 := I8.pins_of fun p hp => absurd hp (by simp)
        have fk := I2.fpOk (H' := H8) (Nat.le_refl _) fD
        have I10 : Inv (X.comp scope cl G2.objs.size N s2 H2 fp) [] σ6 H8 { s8 with heap := h₅, toks := s8.toks } :=
          I9.turned (it := s2.heap.objs.size) (fun b o hb e => hs₅.extBut b o hb e) fD nD (.inr (Nat.le_refl _)) (fun x c e => fk.2.2.2.2.1 x c (hcl x c e)) (fun p hp => absurd hp (by simp [Cx.comp]))
        refine ⟨m', hm, i + 1, ys ++ [yv], its ++ [y], σ6, H8, I10.pins_of fun p hp => ?_, ?_, (back I8).2, rv.append (.cons r8 .nil), w8⟩
        · have e : p = (s2.heap.objs.size, { cls := .type "list", data := .seq (its ++ [y]).toArray (its ++ [y]).length }) := by simpa using hp
          subst e
          refine ⟨?_, fD, nD, nfD, fun v z => by cases z⟩
          show h₅.get? s2.heap.objs.size = _
          rw [hD₅, List.push_toArray, List.length_append, List.length_singleton]
        · exact T.keep _ _ _ (back I8).1 fun b hb o e => hs₅.extBut b o (fun z => fpD (by have z' : b = s2.heap.objs.size := z; rw [← z']; exact hb)) e
  exact codeAny_compStart_list (loop _ rfl) (T.self _ 0 _ _ _ hst₁ (loop _ rfl))

theorem pe_comp (hc : X.calm = true) (S : CScope X scope N nv ix) (hi : PI X tg iter wi)
    (hg : ∀ cl C s H ex, PG (X.comp scope cl C N s H ex) tg g) (ht : ∀ cl C s H ex, PTs (X.comp scope cl C N s H ex) ifs tt) (he : ∀ cl C s H ex, PE (X.comp scope cl C N s H ex) elt te)
    (hs : ∀ x, foldedSetIterable iter X.env x = pure x := by intro _; rfl) : PE X (.ListComp elt [⟨tg, iter, ifs, 0⟩] scope pos) (tComp nv ix wi g tt te) := by
  intro pins s σ H Q I h
  rw [eval_ListComp]
  refine comp_core (Q := fun ys H' => ∀ D, H' D = none → Q (.ref D) (upd H' D (.lst ys))) (use := none) hc S hi hg ht he I ?_ (fun ys D C H' s' s2 σ2 q fD hDC J hm fk fC => ?_) hs
  · exact h
  · obtain ⟨m, hm⟩ := hm
    refine ⟨m, hm, fun h' sb => ⟨.ref D, _, ?_, rfl, q D fD⟩⟩
    have fC' : upd H' D (.lst ys) C = none := by rw [upd_ne (Ne.symm hDC)]; exact fC
    obtain ⟨f0, f1, f2, f3, f4, f5⟩ := fk _ fC'
    exact J.turned (t' := s'.toks) (it := C) (fun b o hb e => sb.extBut b o hb e) f0 f1 f3 f4 f5
end
end L2


set_option maxRecDepth 100000
namespace L2
open PySem PySem.Spec PyProof.Rows

noncomputable def Its (x : Str) : It := ⟨fun i _ => i < x.cps.size, fun i H v H' => H' = H ∧ ∃ c, x.cps[i]? = some c ∧ v = .str ⟨#[c]⟩, fun i _ => x.cps.size ≤ i⟩
theorem turn_str {P : Program} {w : World} {K : PySem.W.Frag} {tg : Expr} (it : Addr) (x : Str) (t : Tok) (T : String) (hT : T = "str_ascii_iterator" ∨ T = "str_iterator") : Turn P w K tg (Its x) [it] it (fun i h => h.IsStrIter it T x t i) where
  mem := by simp
  obj := fun i h st b hb => by
    have e : b = it := by simpa using hb
    subst e
    obtain ⟨o, e, c, d⟩ := st
    exact ⟨o, e, fun v z => by rw [d] at z; cases z⟩
  keep := fun i h h' st k => by
    obtain ⟨o, e, r⟩ := st
    exact ⟨o, k it (by simp) o e, r⟩
  item := by
    intro X hP hw hK hc i pins s σ H E I hf st hg
    subst hP hw hK
    obtain ⟨f0, f1, f2, f3, f4, f5⟩ := hf it (by simp)
    have hg' : i < x.cps.size := hg
    have W : Walks X.prog X.w X.A it [it] [it] x.cps.size (SignAt x) (fun i h => h.IsStrIter it T x t i) := by
      rcases hT with rfl | rfl
      · exact Walks.strAscii (I.ok.hd hc) it x t
      · exact Walks.strWide (I.ok.hd hc) it x t
    refine W.item i s _ _ hg' st fun v h' tk hv st' kk => ?_
    obtain ⟨c, u, hcx, rfl⟩ := hv
    have I1 : Inv X pins σ H { s with heap := h', toks := tk } := I.turned (fun b o hb e => kk b o (by simpa using hb) e) f0 f1 f3 f4 f5
    obtain ⟨o, e, c', d⟩ := id st'
    refine ⟨_, rfl, go_of (s := { s with heap := h', toks := tk }) e c' d (by rcases hT with rfl | rfl <;> decide) ⟨.str ⟨#[c]⟩, H, I1, ⟨u, rfl⟩, ⟨rfl, c, hcx, rfl⟩, st', fun b hb => (hf b hb).1⟩⟩
  done := by
    intro X hP hw hK hc i pins s σ H E I hf st hg
    subst hP hw hK
    obtain ⟨f0, f1, f2, f3, f4, f5⟩ := hf it (by simp)
    have hg' : x.cps.size ≤ i := hg
    have he : x.cps[i]? = none := by simp [hg']
    rcases hT with rfl | rfl
    · exact wpAny_pyNext_ascii_end (I.ok.hd hc) st he fun h' eb => ⟨rfl, I.turned (t' := s.toks) (fun b o hb e => eb b o hb e) f0 f1 f3 f4 f5⟩
    · exact wpAny_pyNext_wide_end (I.ok.hd hc) st he fun h' eb => ⟨rfl, I.turned (t' := s.toks) (fun b o hb e => eb b o hb e) f0 f1 f3 f4 f5⟩
  self := fun _ _ _ _ _ st h => by
    rcases hT with rfl | rfl
    · exact wpAny_pyIter_striter_ascii st h
    · exact wpAny_pyIter_striter_wide st h

noncomputable def seqR (K : PySem.W.Frag) (x : V) (H1 : Hp) (R : It → Hp → Prop) : Prop := match x with
  | .ref a => (∃ xs, SqL K H1 a xs ∧ R (Itl K a) H1) ∨ (∃ xs, SqT K H1 a xs ∧ R (Itt K a) H1)
  | .str z => R (Its z) H1
  | _ => False
noncomputable def iSeq (K : PySem.W.Frag) (tl : TE) : TI := fun σ H R => tl σ H fun x H1 => seqR K x H1 R
theorem pi_seq {X : Cx} {tg l : Expr} {tl : TE} (hl : PE X l tl) : PI X tg l (iSeq X.K tl) := by
  intro pins s σ H R I h
  refine thn (hl pins s σ H _ I h) fun v s1 ⟨x, H1, I1, r1, q1⟩ => ?_
  cases x with
  | ref a =>
    cases r1
    rcases q1 with ⟨xs, hq, q⟩ | ⟨xs, hq, q⟩
    · obtain ⟨its, rv, p, hz⟩ := I1.list hq
      refine wpAny_pyIter_list p.isList ?_
      refine ⟨s1.heap.objs.size, [s1.heap.objs.size], _, _, H1, rfl, I1.kept (t' := s1.toks) fun b o e => Heap.get?_push_of_some _ e, turn_list a _, ⟨_, Heap.get?_push_size _ rfl, rfl, rfl⟩, fun b hb => ?_, q⟩
      have e : b = s1.heap.objs.size := by simpa using hb
      subst e
      exact I1.fpOk (Nat.le_refl _) (I1.hok.fresh (Nat.le_refl _))
    · obtain ⟨its, rv, p, hz⟩ := I1.tuple hq
      refine wpAny_pyIter_tuple (show s1.heap.IsTuple a its.toArray from p) ?_
      refine ⟨s1.heap.objs.size, [s1.heap.objs.size], _, _, H1, rfl, I1.kept (t' := s1.toks) fun b o e => Heap.get?_push_of_some _ e, turn_tuple a _, ⟨_, Heap.get?_push_size _ rfl, rfl, rfl⟩, fun b hb => ?_, q⟩
      have e : b = s1.heap.objs.size := by simpa using hb
      subst e
      exact I1.fpOk (Nat.le_refl _) (I1.hok.fresh (Nat.le_refl _))
  | str z =>
    obtain ⟨t, rfl⟩ := r1
    have fp : ∀ b ∈ [s1.heap.objs.size], FpOk X pins H1 b := fun b hb => by
      have e : b = s1.heap.objs.size := by simpa using hb
      subst e
      exact I1.fpOk (Nat.le_refl _) (I1.hok.fresh (Nat.le_refl _))
    cases ha : z.cps.all (· < 128)
    · exact wpAny_pyIter_wide ha ⟨s1.heap.objs.size, [s1.heap.objs.size], _, _, H1, rfl, I1.kept (t' := s1.toks) fun b o e => Heap.get?_push_of_some _ e, turn_str _ z t _ (.inr rfl), ⟨_, Heap.get?_push_size _ rfl, rfl, rfl⟩, fp, q1⟩
    · exact wpAny_pyIter_ascii ha ⟨s1.heap.objs.size, [s1.heap.objs.size], _, _, H1, rfl, I1.kept (t' := s1.toks) fun b o e => Heap.get?_push_of_some _ e, turn_str _ z t _ (.inl rfl), ⟨_, Heap.get?_push_size _ rfl, rfl, rfl⟩, fp, q1⟩
  | _ => exact q1.elim

noncomputable def forR (J : It) (g : TG) (tb : TS) (D : Ends) (σ : St) (H : Hp) : Prop := ∃ W : Nat → Nat → St → Hp → Prop, (∃ m, W 0 m σ H) ∧ ∀ i m σ H, W i m σ H →
  (J.stop i H ∧ D.nx σ H) ∨ (J.go i H ∧ ∃ N : St → Hp → Prop, (∀ σ' H', N σ' H' → ∃ m', m' < m ∧ W (i + 1) m' σ' H') ∧ ∀ x H', J.yld i H x H' → g x σ H' fun σ2 H2 => tb { D with nx := N, ct := N, bk := D.nx } σ2 H2)
section
variable {K : PySem.W.Frag} {tl : TE} {g : TG} {tb : TS} {D : Ends} {σ : St} {H : Hp} {tt : TT} {te : TE} {nv : Nat} {ix : List Nat} {Q : VK} {ta : TA}
theorem tFor_seq : tFor (iSeq K tl) g tb D σ H = tl σ H fun x H1 => seqR K x H1 fun J H2 => forR J g tb D σ H2 := rfl
theorem tComp_seq : tComp nv ix (iSeq K tl) g tt te σ H Q = tl σ H fun x H1 => seqR K x H1 fun J H2 => compR J g tt te (compSt nv ix σ) H2 fun ys H' => ys.length ≤ sizeLine ∧ ∀ l, H' l = none → Q (.ref l) (upd H' l (.lst ys)) := rfl
noncomputable def rngR1 (vs : List V) (H1 : Hp) (R : It → Hp → Prop) : Prop := match vs with
  | [.int j] => (-(2 ^ 62) ≤ j ∧ j < 2 ^ 62) ∧ R (Itr 0 j.toNat) H1
  | _ => False
noncomputable def rngR2 (vs : List V) (H1 : Hp) (R : It → Hp → Prop) : Prop := match vs with
  | [.int i, .int j] => (-(2 ^ 62) ≤ i ∧ i < 2 ^ 62 ∧ -(2 ^ 62) ≤ j ∧ j < 2 ^ 62) ∧ R (Itr i (j - i).toNat) H1
  | _ => False
noncomputable def jRng1 (ta : TA) : TI := fun σ H R => ta σ H fun vs H1 => rngR1 vs H1 R
noncomputable def jRng2 (ta : TA) : TI := fun σ H R => ta σ H fun vs H1 => rngR2 vs H1 R
noncomputable def rngR3 (vs : List V) (H1 : Hp) (R : It → Hp → Prop) : Prop := match vs with
  | [.int i, .int j, .int c] => (-(2 ^ 61) ≤ i ∧ i < 2 ^ 61 ∧ -(2 ^ 61) ≤ j ∧ j < 2 ^ 61 ∧ 0 < c ∧ c < 1000000) ∧ R (ItrS i c (rcount i j c)) H1
  | _ => False
noncomputable def jRng3 (ta : TA) : TI := fun σ H R => ta σ H fun vs H1 => rngR3 vs H1 R
theorem tFor_rng1 : tFor (jRng1 ta) g tb D σ H = ta σ H fun vs H1 => rngR1 vs H1 fun J H2 => forR J g tb D σ H2 := rfl
theorem tFor_rng2 : tFor (jRng2 ta) g tb D σ H = ta σ H fun vs H1 => rngR2 vs H1 fun J H2 => forR J g tb D σ H2 := rfl
theorem tFor_rng3 : tFor (jRng3 ta) g tb D σ H = ta σ H fun vs H1 => rngR3 vs H1 fun J H2 => forR J g tb D σ H2 := rfl
theorem tComp_rng1 : tComp nv ix (jRng1 ta) g tt te σ H Q = ta σ H fun vs H1 => rngR1 vs H1 fun J H2 => compR J g tt te (compSt nv ix σ) H2 fun ys H' => ys.length ≤ sizeLine ∧ ∀ l, H' l = none → Q (.ref l) (upd H' l (.lst ys)) := rfl
theorem tComp_rng2 : tComp nv ix (jRng2 ta) g tt te σ H Q = ta σ H fun vs H1 => rngR2 vs H1 fun J H2 => compR J g tt te (compSt nv ix σ) H2 fun ys H' => ys.length ≤ sizeLine ∧ ∀ l, H' l = none → Q (.ref l) (upd H' l (.lst ys)) := rfl
theorem tComp_rng3 : tComp nv ix (jRng3 ta) g tt te σ H Q = ta σ H fun vs H1 => rngR3 vs H1 fun J H2 => compR J g tt te (compSt nv ix σ) H2 fun ys H' => ys.length ≤ sizeLine ∧ ∀ l, H' l = none → Q (.ref l) (upd H' l (.lst ys)) := rfl
theorem rngR1_int {j : Int} {R : It → Hp → Prop} : rngR1 [.int j] H R = ((-(2 ^ 62) ≤ j ∧ j < 2 ^ 62) ∧ R (Itr 0 j.toNat) H) := rfl
theorem rngR2_int {i j : Int} {R : It → Hp → Prop} : rngR2 [.int i, .int j] H R = ((-(2 ^ 62) ≤ i ∧ i < 2 ^ 62 ∧ -(2 ^ 62) ≤ j ∧ j < 2 ^ 62) ∧ R (Itr i (j - i).toNat) H) := rfl
theorem rngR3_int {i j c : Int} {R : It → Hp → Prop} : rngR3 [.int i, .int j, .int c] H R = ((-(2 ^ 61) ≤ i ∧ i < 2 ^ 61 ∧ -(2 ^ 61) ≤ j ∧ j < 2 ^ 61 ∧ 0 < c ∧ c < 1000000) ∧ R (ItrS i c (rcount i j c)) H) := rfl
end
section
variable {X : Cx} {tg : Expr}
theorem pj_range1 {a : Expr} {ta : TA} {p pos : Pos} (hg : Gl X "range") (hm : X.mg "range" = none) (ha : PA X [a] ta) (hs : starEach [a] X.env = [(false, eval a X.env)] := by rfl) : PI X tg (.Call (.Name "range" p) [a] [] pos) (jRng1 ta) := by
  intro pins s σ H R I h
  refine Call_ (ld_blt I hg hm boot_range (PyProof.Rows.callWith_type1 (thn (ha pos pins s σ H _ I h) fun us s1 ⟨vs, H1, I1, r1, q1⟩ => ?_) hs rfl))
  replace q1 : rngR1 vs H1 R := q1
  unfold rngR1 at q1
  split at q1
  · obtain ⟨⟨q1, q2⟩, q⟩ := q1
    cases r1 with
    | cons r rr =>
      cases rr
      obtain ⟨t, rfl⟩ := r
      exact call_range_1 (range_it I1 (by omega) (by omega) q1 q2 (by simpa using q))
  · exact q1.elim
end
section
variable {K : PySem.W.Frag} {g : TG} {tb : TS} {D : Ends} {σ : St} {H : Hp}
theorem fo_list {a : Addr} {xs : List V} (hS : SqL K H a xs) (Pv : Nat → St → Hp → Prop) (h0 : Pv 0 σ H) (hl : ∀ i σ H, i ≤ xs.length → Pv i σ H → SqL K H a xs)
    (hs : ∀ i x σ H, xs[i]? = some x → Pv i σ H → g x σ H fun σ2 H2 => tb { D with nx := Pv (i + 1), ct := Pv (i + 1), bk := D.nx } σ2 H2) (hd : ∀ σ H, Pv xs.length σ H → D.nx σ H) :
    seqR K (.ref a) H fun J H2 => forR J g tb D σ H2 := .inl ⟨xs, hS, for_list Pv h0 hl hs hd⟩
theorem fo_rng {lo : Int} {n : Nat} (Pv : Nat → St → Hp → Prop) (h0 : Pv 0 σ H)
    (hs : ∀ (i : Nat) σ H, i < n → Pv i σ H → g (.int (lo + i)) σ H fun σ2 H2 => tb { D with nx := Pv (i + 1), ct := Pv (i + 1), bk := D.nx } σ2 H2) (hd : ∀ σ H, Pv n σ H → D.nx σ H) :
    forR (Itr lo n) g tb D σ H := for_range Pv h0 hs hd
end

section
variable {K : PySem.W.Frag} {tt : TT} {te : TE} {H : Hp} {tail : St} {Q : List V → Hp → Prop} {p : V → Bool} {f : V → V}
theorem compSt_one {ix : List Nat} {σ : St} : compSt 1 ix σ = none :: ix.map fun i => (σ[i]?).join := rfl
end
end L2


set_option maxRecDepth 100000
namespace L2
open PySem PySem.Spec PyProof.Rows

section
variable {X : Cx}
noncomputable def rIsB (neg : Bool) : R2 := fun x y H Q => match y with
  | .bl b => Q (.bl (if neg then !decide (x = .bl b) else decide (x = .bl b))) H
  | _ => False
theorem dec_blbl {a b : Bool} : decide (V.bl a = V.bl b) = decide (a = b) := by
  cases a <;> cases b <;> decide
theorem rIsB_bl {a b : Bool} {H : Hp} {Q : VK} : rIsB false (.bl a) (.bl b) H Q = Q (.bl (decide (a = b))) H := by
  show Q (.bl (if false = true then _ else decide (V.bl a = V.bl b))) H = _
  rw [if_neg Bool.false_ne_true, dec_blbl]
theorem rIsnotB_bl {a b : Bool} {H : Hp} {Q : VK} : rIsB true (.bl a) (.bl b) H Q = Q (.bl (!decide (a = b))) H := by
  show Q (.bl (if true = true then !decide (V.bl a = V.bl b) else _)) H = _
  rw [if_pos rfl, dec_blbl]

noncomputable def rIsN (neg : Bool) : R2 := fun x y H Q => match y with
  | .non => Q (.bl (if neg then !decide (x = .non) else decide (x = .non))) H
  | _ => False
theorem rIsN_f {x : V} {H : Hp} {Q : VK} : rIsN false x .non H Q = Q (.bl (decide (x = .non))) H := rfl
theorem rIsN_t {x : V} {H : Hp} {Q : VK} : rIsN true x .non H Q = Q (.bl (!decide (x = .non))) H := rfl

noncomputable def rBitlen : V → List V → Hp → VK → Prop := fun x vs H Q => match x, vs with
  | .int i, [] => Q (.int ((Builtin.Int.intBits i : Nat) : Int)) H
  | _, _ => False
theorem tyV_int {K : PySem.W.Frag} {i : Int} {H : Hp} : tyV K "int" (.int i) H = True := by
  show ("int" = "int") = True
  simp
theorem tyV_str {K : PySem.W.Frag} {z : Str} {H : Hp} : tyV K "str" (.str z) H = True := by
  show ("str" = "str") = True
  simp
theorem rBitlen_int {i : Int} {H : Hp} {Q : VK} : rBitlen (.int i) [] H Q = Q (.int ((Builtin.Int.intBits i : Nat) : Int)) H := rfl

noncomputable def rSlS : V → Option Int → Option Int → Hp → VK → Prop := fun x lo hi H Q => ∃ z, x = .str z ∧ z.length ≤ sizeLine ∧ Q (.str (Txt.slice z lo hi)) H
theorem part_val {v : Value} {o : Option Int} (h : IsPart v o) : ∃ l : Option (Int × Tok), v = partValue l ∧ l.map (·.1) = o := by
  cases h with
  | none => exact ⟨none, rfl, rfl⟩
  | int i t => exact ⟨some (i, t), rfl, rfl⟩
theorem sl_str : SlR X rSlS := by
  intro pins s σ H x v vl vu lo hi sl Q I rx hs pl pu h
  obtain ⟨z, rfl, hz, q⟩ := h
  obtain ⟨t, rfl⟩ := rx
  obtain ⟨l, rfl, el⟩ := part_val pl
  obtain ⟨u, rfl, eu⟩ := part_val pu
  refine ⟨"str", _, F.slot_str_getitem.lookup, typeIs_str _ _ _, wpAny_getItem_str_slice (l := l) (u := u) (st := none) hs rfl ?_⟩
  unfold sliceMade
  have e : slicePicked z l u none = Builtin.Str.strSliceIndices lo hi 1 z.length := by
    unfold slicePicked
    rw [el, eu]
    rfl
  rw [e]
  have hq : Txt.slice z lo hi = if ((1 : Int) == 1 && (Builtin.Str.strSliceIndices lo hi 1 z.length).length == z.length) = true then z else ⟨((Builtin.Str.strSliceIndices lo hi 1 z.length).filterMap (z.cps[·]?)).toArray⟩ := rfl
  have hle := Txt.slice_le z lo hi
  rw [hq] at q hle
  show (if ((1 : Int) == 1 && (Builtin.Str.strSliceIndices lo hi 1 z.length).length == z.length) = true then Made.val (.str z t) else _).post _ s
  by_cases c : ((1 : Int) == 1 && (Builtin.Str.strSliceIndices lo hi 1 z.length).length == z.length) = true
  · rw [if_pos c] at q ⊢
    exact ⟨.str z, H, I, ⟨t, rfl⟩, q⟩
  · rw [if_neg c] at q hle ⊢
    exact ⟨Nat.le_trans hle hz, .str _, H, I.tok _, ⟨_, rfl⟩, q⟩
noncomputable def rSlA (K : PySem.W.Frag) : V → Option Int → Option Int → Hp → VK → Prop := fun x lo hi H Q => match x with
  | .ref a => (∃ xs, SqL K H a xs ∧ ∀ p, H p = none → Q (.ref p) (upd H p (.lst (cutV xs lo hi)))) ∨ rSlT K (.ref a) lo hi H Q
  | .str z => z.length ≤ sizeLine ∧ Q (.str (Txt.slice z lo hi)) H
  | _ => False
theorem SlR.imp {r r' : V → Option Int → Option Int → Hp → VK → Prop} (h : SlR X r) (i : ∀ x lo hi H Q, r' x lo hi H Q → r x lo hi H Q) : SlR X r' :=
  fun pins s σ H x v vl vu lo hi sl Q I rx hs pl pu q => h pins s σ H x v vl vu lo hi sl Q I rx hs pl pu (i _ _ _ _ _ q)
theorem sl_A : SlR X (rSlA X.K) := by
  refine SlR.imp (sl_list.or (sl_tup.or sl_str)) fun x lo hi H Q h => ?_
  unfold rSlA at h
  split at h
  · rcases h with ⟨xs, h1, h2⟩ | h
    · exact .inl ⟨_, xs, rfl, h1, h2⟩
    · exact .inr (.inl h)
  · exact .inr (.inr ⟨_, rfl, h.1, h.2⟩)
  · exact h.elim
theorem rSlA_str {K : PySem.W.Frag} {z : Str} {lo hi : Option Int} {H : Hp} {Q : VK} : rSlA K (.str z) lo hi H Q = (z.length ≤ sizeLine ∧ Q (.str (Txt.slice z lo hi)) H) := rfl
theorem rSlA_list {K : PySem.W.Frag} {a : Addr} {xs : List V} {lo hi : Option Int} {H : Hp} {Q : VK} (hS : SqL K H a xs) (h : ∀ p, H p = none → Q (.ref p) (upd H p (.lst (cutV xs lo hi)))) : rSlA K (.ref a) lo hi H Q := .inl ⟨xs, hS, h⟩
noncomputable def rInA (K : PySem.W.Frag) (neg : Bool) : R2 := fun x y H Q => match y with
  | .ref p => ∃ xs, (SqL K H p xs ∨ SqT K H p xs) ∧ flatV x = true ∧ xs.all flatV = true ∧ Q (.bl (if neg then !inV x xs else inV x xs)) H
  | .str j => (match x with
    | .str i => Q (.bl (if neg then !(!(Builtin.Str.occurrences j i 0 j.length 1).isEmpty) else !(Builtin.Str.occurrences j i 0 j.length 1).isEmpty)) H
    | _ => False)
  | _ => False
theorem op_inA : OpR X (compareOp .In) (rInA X.K false) := by
  refine OpR.imp (OpR.or op_in_seq op_in_str) fun x y H Q h => ?_
  unfold rInA at h
  split at h
  · obtain ⟨xs, h1, h2, h3, h4⟩ := h
    exact .inl ⟨_, xs, rfl, h1, h2, h3, h4⟩
  · split at h
    · exact .inr ⟨_, _, rfl, rfl, h⟩
    · exact h.elim
  · exact h.elim
theorem rInA_ref {K : PySem.W.Frag} {neg : Bool} {x : V} {p : Addr} {H : Hp} {Q : VK} : rInA K neg x (.ref p) H Q = (∃ xs, (SqL K H p xs ∨ SqT K H p xs) ∧ flatV x = true ∧ xs.all flatV = true ∧ Q (.bl (if neg then !inV x xs else inV x xs)) H) := rfl
theorem rInA_str {K : PySem.W.Frag} {neg : Bool} {i j : Str} {H : Hp} {Q : VK} : rInA K neg (.str i) (.str j) H Q = Q (.bl (if neg then !(!(Builtin.Str.occurrences j i 0 j.length 1).isEmpty) else !(Builtin.Str.occurrences j i 0 j.length 1).isEmpty)) H := rfl
end

inductive Dt where
  | non | int (i : Int) | str (z : Str) | l (ds : List Dt) | t (ds : List Dt)
noncomputable def Den (K : PySem.W.Frag) (H : Hp) : Nat → V → Dt → Prop
  | 0, x, d => (x = .non ∧ d = .non) ∨ (∃ i, x = .int i ∧ d = .int i) ∨ (∃ z, x = .str z ∧ d = .str z)
  | n + 1, x, d => Den K H n x d ∨ (∃ a xs ds, x = .ref a ∧ d = .l ds ∧ SqL K H a xs ∧ Paired (Den K H n) xs ds) ∨ (∃ a xs ds, x = .ref a ∧ d = .t ds ∧ SqT K H a xs ∧ Paired (Den K H n) xs ds)
theorem Paired.get {α β : Type} {F : α → β → Prop} : ∀ {xs : List α} {ys : List β} {i : Nat} {x : α}, Paired F xs ys → xs[i]? = some x → ∃ y, ys[i]? = some y ∧ F x y
  | _, _, _, _, .nil, e => by simp at e
  | _, _, 0, _, .cons r _, e => by simp at e; subst e; exact ⟨_, rfl, r⟩
  | _, _, i + 1, x, .cons _ t, e => by
    obtain ⟨u, h1, h2⟩ := Paired.get (i := i) (x := x) t (by simpa using e)
    exact ⟨u, by simpa using h1, h2⟩
open Classical in
theorem all_range_eq {α : Type} {xs ys : List α} {e : Nat → Bool} (hl : xs.length = ys.length) (h : ∀ j a b, xs[j]? = some a → ys[j]? = some b → e j = decide (a = b)) : (List.range xs.length).all e = decide (xs = ys) := by
  rw [Bool.eq_iff_iff, List.all_eq_true, decide_eq_true_eq]
  constructor
  · intro q
    refine List.ext_getElem hl fun j h1 h2 => ?_
    have := q j (List.mem_range.mpr h1)
    rw [h j xs[j] ys[j] (by simp [h1]) (by simp [h2]), decide_eq_true_eq] at this
    exact this
  · rintro rfl j hj
    have hj' := List.mem_range.mp hj
    rw [h j xs[j] xs[j] (by simp [hj']) (by simp [hj']), decide_eq_true_eq]
section
variable {X : Cx} {pins : List (Addr × Obj)} {σ : St} {H : Hp} {s : Shared}
open Classical in
theorem paired_det {F G : V → Dt → Prop} : ∀ {xs : List V} {ds es : List Dt}, Paired F xs ds → Paired G xs es → (∀ x d e, F x d → G x e → d = e) → ds = es
  | _, _, _, .nil, .nil, _ => rfl
  | _, _, _, .cons r t, .cons r' t', f => by rw [f _ _ _ r r', paired_det t t' f]
theorem list_not_tuple {a : Addr} {xs ys : List V} (I : Inv X pins σ H s) (h : SqL X.K H a xs) (h' : SqT X.K H a ys) : False := by
  obtain ⟨its, _, p, _⟩ := I.list h
  obtain ⟨its', _, p', _⟩ := I.tuple h'
  obtain ⟨o, n, e, c, _⟩ := p
  obtain ⟨o', e', c', _⟩ := p'
  rw [e] at e'
  cases e'
  rw [c] at c'
  injection c' with z
  exact absurd z (by decide)
theorem size_ne {its its2 : List Value} (h : ¬ its.length = its2.length) : (its.toArray.size != its2.toArray.size) = true := by
  rw [List.size_toArray, List.size_toArray, bne_iff_ne]
  exact h
open Classical in
open Classical in
theorem all_items {ds es : List Dt} {n : Nat} (hn : n = ds.length) (hl : ds.length = es.length) : (List.range n).all (fun j => decide (ds[j]? = es[j]?)) = decide (ds = es) := by
  subst hn
  exact all_range_eq hl fun j a b ha hb => by
    rw [ha, hb, Bool.eq_iff_iff, decide_eq_true_eq, decide_eq_true_eq]
    exact ⟨fun q => Option.some.inj q, fun q => by rw [q]⟩
open Classical in
end

noncomputable def rEqA (K : PySem.W.Frag) (neg : Bool) : R2 := fun x y H Q => match x, y with
  | .ref a, .ref b => ∃ n d e, n ≤ 60 ∧ Den K H n (.ref a) d ∧ Den K H n (.ref b) e ∧ ((d = e ∧ Q (.bl (!neg)) H) ∨ (d ≠ e ∧ Q (.bl neg) H))
  | x, y => scal x y = true ∧ Q (.bl (if neg then !decide (x = y) else decide (x = y))) H
section
variable {X : Cx}
open Classical in
open Classical in
end
section
variable {K : PySem.W.Frag} {H : Hp} {Q : VK}
theorem rEqA_int {i j : Int} : rEqA K false (.int i) (.int j) H Q = Q (.bl (decide (i = j))) H := by
  show (scal (.int i) (.int j) = true ∧ Q (.bl (if false = true then _ else decide (V.int i = V.int j))) H) = _
  rw [if_neg Bool.false_ne_true]
  exact rEq_int
theorem rNeA_int {i j : Int} : rEqA K true (.int i) (.int j) H Q = Q (.bl (!decide (i = j))) H := by
  show (scal (.int i) (.int j) = true ∧ Q (.bl (if true = true then !decide (V.int i = V.int j) else _)) H) = _
  rw [if_pos rfl]
  exact rNe_int
theorem rEqA_str {i j : Str} : rEqA K false (.str i) (.str j) H Q = Q (.bl (decide (i = j))) H := by
  show (scal (.str i) (.str j) = true ∧ Q (.bl (if false = true then _ else decide (V.str i = V.str j))) H) = _
  rw [if_neg Bool.false_ne_true]
  exact rEq_str
theorem rNeA_str {i j : Str} : rEqA K true (.str i) (.str j) H Q = Q (.bl (!decide (i = j))) H := by
  show (scal (.str i) (.str j) = true ∧ Q (.bl (if true = true then !decide (V.str i = V.str j) else _)) H) = _
  rw [if_pos rfl]
  exact rNe_str
theorem rEqA_bl {i j : Bool} : rEqA K false (.bl i) (.bl j) H Q = Q (.bl (decide (i = j))) H := by
  show (scal (.bl i) (.bl j) = true ∧ Q (.bl (if false = true then _ else decide (V.bl i = V.bl j))) H) = _
  rw [if_neg Bool.false_ne_true]
  exact rEq_bl
theorem rNeA_bl {i j : Bool} : rEqA K true (.bl i) (.bl j) H Q = Q (.bl (!decide (i = j))) H := by
  show (scal (.bl i) (.bl j) = true ∧ Q (.bl (if true = true then !decide (V.bl i = V.bl j) else _)) H) = _
  rw [if_pos rfl]
  exact rNe_bl
end
end L2


set_option maxRecDepth 100000
namespace L2
open PySem PySem.Spec PyProof.Rows

noncomputable def csOk (osc scope : Scope) (ON N : List Str) (nv : Nat) (ix : List Nat) : Bool :=
  scope.kind == .function && scope.names.all (fun y => y.2 != .cell && (y.2 != .local || scope.names.lookup y.1 == some .local) && (y.2 != .free || (osc.names.lookup y.1 == some .cell || osc.names.lookup y.1 == some .free))) &&
    N.length == nv + ix.length && (List.range ix.length).all fun j => match N[nv + j]?, ix[j]? with
      | some y, some i => ON[i]? == some y && (osc.names.lookup y == some .cell || osc.names.lookup y == some .free) && scope.names.lookup y == some .free
      | _, _ => false
theorem cs_of {X : Cx} {scope : Scope} {N : List Str} {nv : Nat} {ix : List Nat} (h : csOk X.env.scope scope X.N N nv ix = true) : CScope X scope N nv ix := by
  unfold csOk at h
  simp only [Bool.and_eq_true, beq_iff_eq, List.all_eq_true, List.mem_range, Bool.or_eq_true, bne_iff_ne, ne_eq] at h
  obtain ⟨⟨⟨h1, h2⟩, h3⟩, h4⟩ := h
  refine ⟨h1, fun y hy => (h2 y hy).1.1, fun y hy hl => ?_, fun y hy hf => ?_, h3, fun j y e => ?_⟩
  · rcases (h2 y hy).1.2 with z | z
    · exact absurd hl z
    · exact z
  · rcases (h2 y hy).2 with z | z
    · exact absurd hf z
    · exact z
  · have hj : j < ix.length := by
      have := (List.getElem?_eq_some_iff.mp e).1
      omega
    have q := h4 j hj
    rw [e, List.getElem?_eq_getElem hj] at q
    simp only [Bool.and_eq_true, beq_iff_eq, Bool.or_eq_true] at q
    exact ⟨ix[j], List.getElem?_eq_getElem hj, q.1.1, q.1.2, q.2⟩

noncomputable def tTC (K : PySem.W.Frag) (vs : List V) : TE := fun _ H Q => ∀ a, (∀ H, SqT K H a vs) → (∀ H, tyV K "tuple" (.ref a) H) → Q (.ref a) H
section
variable {X : Cx}
noncomputable def rAll (K : PySem.W.Frag) (any : Bool) : List V → Hp → VK → Prop := fun xs H Q => match xs with
  | [.ref p] => ∃ bs : List Bool, SqL K H p (bs.map V.bl) ∧ Q (.bl (if any then bs.any id else bs.all id)) H
  | _ => False
noncomputable def rSum (K : PySem.W.Frag) : List V → Hp → VK → Prop := fun xs H Q => match xs with
  | [.ref p] => ∃ ns : List Int, SqL K H p (ns.map V.int) ∧ Q (.int ns.sum) H
  | _ => False
theorem rAll_ref {K : PySem.W.Frag} {p : Addr} {H : Hp} {Q : VK} : rAll K false [.ref p] H Q = (∃ bs : List Bool, SqL K H p (bs.map V.bl) ∧ Q (.bl (bs.all id)) H) := rfl
theorem rAny_ref {K : PySem.W.Frag} {p : Addr} {H : Hp} {Q : VK} : rAll K true [.ref p] H Q = (∃ bs : List Bool, SqL K H p (bs.map V.bl) ∧ Q (.bl (bs.any id)) H) := rfl
theorem rSum_ref {K : PySem.W.Frag} {p : Addr} {H : Hp} {Q : VK} : rSum K [.ref p] H Q = (∃ ns : List Int, SqL K H p (ns.map V.int) ∧ Q (.int ns.sum) H) := rfl

noncomputable def rListA (K : PySem.W.Frag) : List V → Hp → VK → Prop := fun xs H Q => match xs with
  | [.ref p] => ∃ ys, (SqL K H p ys ∨ SqT K H p ys) ∧ ∀ l, H l = none → Q (.ref l) (upd H l (.lst ys))
  | _ => False
noncomputable def rTupleA (K : PySem.W.Frag) : List V → Hp → VK → Prop := fun xs H Q => match xs with
  | [.ref p] => ∃ ys, (SqL K H p ys ∧ ∀ l, H l = none → Q (.ref l) (upd H l (.tup ys))) ∨ (SqT K H p ys ∧ Q (.ref p) H)
  | _ => False
theorem rListA_ref {K : PySem.W.Frag} {p : Addr} {H : Hp} {Q : VK} : rListA K [.ref p] H Q = (∃ ys, (SqL K H p ys ∨ SqT K H p ys) ∧ ∀ l, H l = none → Q (.ref l) (upd H l (.lst ys))) := rfl
theorem rTupleA_ref {K : PySem.W.Frag} {p : Addr} {H : Hp} {Q : VK} : rTupleA K [.ref p] H Q = (∃ ys, (SqL K H p ys ∧ ∀ l, H l = none → Q (.ref l) (upd H l (.tup ys))) ∨ (SqT K H p ys ∧ Q (.ref p) H)) := rfl
noncomputable def rDivmodA : List V → Hp → VK → Prop := fun xs H Q => match xs with
  | [.int i, .int j] => CDiv i j ∧ ∀ p, H p = none → Q (.ref p) (upd H p (.tup [.int (i / j), .int (i % j)]))
  | _ => False
theorem rDivmodA_int {i j : Int} {H : Hp} {Q : VK} : rDivmodA [.int i, .int j] H Q = (CDiv i j ∧ ∀ p, H p = none → Q (.ref p) (upd H p (.tup [.int (i / j), .int (i % j)]))) := rfl

noncomputable def rAppendA : V → List V → Hp → VK → Prop := fun x vs H Q => match x, vs with
  | .ref l, [y] => ∃ xs, H l = some (.lst xs) ∧ xs.length < sizeLine ∧ Q .non (upd H l (.lst (xs ++ [y])))
  | _, _ => False
theorem mt_appendA : MtR X "list.append" rAppendA := by
  intro pins s σ H x xs v us Q I rx rs q
  unfold rAppendA at q
  split at q
  · obtain ⟨ys, h1, h2, h3⟩ := q
    exact mt_append pins s σ H _ _ v us Q I rx rs ⟨_, ys, _, rfl, rfl, h1, h2, h3⟩
  · exact q.elim
theorem pe_append {o e : Expr} {to te : TE} {apos cpos : Pos} (ho : PE X o to) (he : PE X e te) (hbase : attributeBase o "append" X.env (eval o X.env) = eval o X.env := by rfl)
    (hfew : ((backTo cpos (starEach [e] X.env)).all (fun x => !x.1) && (backToKw cpos (keywordEach [] X.env)).all (fun x => x.1.isSome)
      && decide ([e].length + ([] : List Keyword).length + (if ([] : List Keyword).isEmpty then 0 else 1) < 30)) = true := by rfl)
    (hline : (apos.endLine == cpos.line) = true := by rfl) (hs : starEach [e] X.env = (false, eval e X.env) :: starEach [] X.env := by rfl) (hplain : (backTo cpos (starEach [] X.env)).any (·.1) = false := by rfl) :
    PE X (.Call (.Attribute o "append" apos) [e] [] cpos) (tBM X.K "list" rAppendA to (tCons te tNil)) :=
  pe_bm F.plainAttrs_list F.slot_list_append F.type_list_append mt_appendA ho (pa_cons he pa_nil hs) hbase hfew hline hs hplain
theorem tyV_list {K : PySem.W.Frag} {a : Addr} {xs : List V} {H : Hp} (h : SqL K H a xs) : tyV K "list" (.ref a) H := .inl ⟨rfl, xs, h⟩
theorem rAppendA_ref {l : Addr} {y : V} {H : Hp} {Q : VK} : rAppendA (.ref l) [y] H Q = (∃ xs, H l = some (.lst xs) ∧ xs.length < sizeLine ∧ Q .non (upd H l (.lst (xs ++ [y])))) := rfl
noncomputable def rSetA : V → V → V → Hp → (Hp → Prop) → Prop := fun o i v H Q => match o, i with
  | .ref p, .int k => ∃ xs j, H p = some (.lst xs) ∧ ixN xs.length k = some j ∧ Q (upd H p (.lst (xs.set j v)))
  | _, _ => False
theorem set_A : PSet X rSetA := by
  intro pins s σ H o i v ov iv u Q I ro ri rv q
  unfold rSetA at q
  split at q
  · obtain ⟨xs, j, h1, h2, h3⟩ := q
    exact set_list pins s σ H _ _ v ov iv u Q I ro ri rv ⟨_, xs, _, j, rfl, rfl, h1, h2, h3⟩
  · exact q.elim
theorem rSetA_ref {p : Addr} {k : Int} {v : V} {H : Hp} {Q : Hp → Prop} : rSetA (.ref p) (.int k) v H Q = (∃ xs j, H p = some (.lst xs) ∧ ixN xs.length k = some j ∧ Q (upd H p (.lst (xs.set j v)))) := rfl
noncomputable def rIxA (K : PySem.W.Frag) : R2 := fun x y H Q => match x, y with
  | .ref p, .int i => ∃ xs v, (SqL K H p xs ∨ SqT K H p xs) ∧ atI xs i = some v ∧ Q v H
  | .str z, .int i => ∃ c, z.length ≤ sizeLine ∧ atI z.cps.toList i = some c ∧ Q (.str ⟨#[c]⟩) H
  | _, _ => False
theorem IxR.imp {r r' : R2} (h : IxR X r) (i : ∀ x y H Q, r' x y H Q → r x y H Q) : IxR X r' := fun value slice pins s σ H x y v u Q I rx ry q hs => h value slice pins s σ H x y v u Q I rx ry (i _ _ _ _ q) hs
theorem ix_A : IxR X (rIxA X.K) := IxR.imp ix_seq fun x y H Q h => by
  unfold rIxA at h
  split at h
  · obtain ⟨xs, v, h1, h2, h3⟩ := h
    rcases h1 with h1 | h1
    · exact .inl ⟨_, xs, _, v, rfl, rfl, h1, h2, h3⟩
    · exact .inr (.inl ⟨_, xs, _, v, rfl, rfl, h1, h2, h3⟩)
  · obtain ⟨c, h1, h2, h3⟩ := h
    exact .inr (.inr ⟨_, _, c, rfl, rfl, h1, h2, h3⟩)
  · exact h.elim
theorem ixA_list {K : PySem.W.Frag} {p : Addr} {i : Int} {H : Hp} {Q : VK} {xs : List V} {v : V} (h : SqL K H p xs) (e : atI xs i = some v) (q : Q v H) : rIxA K (.ref p) (.int i) H Q := ⟨xs, v, .inl h, e, q⟩
theorem ixA_tup {K : PySem.W.Frag} {p : Addr} {i : Int} {H : Hp} {Q : VK} {xs : List V} {v : V} (h : SqT K H p xs) (e : atI xs i = some v) (q : Q v H) : rIxA K (.ref p) (.int i) H Q := ⟨xs, v, .inr h, e, q⟩
theorem ixA_ints {K : PySem.W.Frag} {H : Hp} {a : Addr} {ns : List Int} {k : Int} {Q : VK} (hS : SqL K H a (ns.map V.int)) (h0 : 0 ≤ k) (h1 : k < (ns.length : Int)) (q : Q (.int (ns.getD k.toNat 0)) H) : rIxA K (.ref a) (.int k) H Q := by
  refine ixA_list hS ?_ q
  obtain ⟨j, rfl⟩ : ∃ j : Nat, k = (j : Int) := ⟨k.toNat, by omega⟩
  refine atI_nat ?_
  have hj : j < ns.length := by omega
  rw [List.getElem?_map, List.getElem?_eq_getElem hj]
  simp [List.getD, hj]
end
section
variable {K : PySem.W.Frag} {H : Hp} {σ : St}
theorem gTup_ref {n : Nat} {t : TGs} {a : Addr} {Q : St → Hp → Prop} : gTup K n t (.ref a) σ H Q = (∃ xs, SqT K H a xs ∧ xs.length = n ∧ t xs σ H Q) := by
  apply propext
  constructor
  · rintro ⟨b, xs, e, h⟩
    cases e
    exact ⟨xs, h⟩
  · rintro ⟨xs, h⟩
    exact ⟨a, xs, rfl, h⟩
theorem gCons_cons {t : TG} {u : TGs} {v : V} {r : List V} {Q : St → Hp → Prop} : gCons t u (v :: r) σ H Q = t v σ H fun σ' H' => u r σ' H' Q := by
  apply propext
  constructor
  · rintro ⟨v', r', e, h⟩
    cases e
    exact h
  · intro h
    exact ⟨v, r, rfl, h⟩
theorem gNil_nil {Q : St → Hp → Prop} : gNil [] σ H Q = Q σ H := by
  apply propext
  exact ⟨fun h => h.2, fun h => ⟨rfl, h⟩⟩
theorem ex_int {i : Int} {P : Int → Prop} : (∃ k, V.int i = .int k ∧ P k) = P i := by
  apply propext
  constructor
  · rintro ⟨k, e, q⟩
    cases e; exact q
  · intro q; exact ⟨i, rfl, q⟩
theorem small_line {n : Nat} (h : n ≤ 1000) : (n ≤ sizeLine) = True := by
  have := sizeLine_eq
  simp only [eq_iff_iff, iff_true]
  omega
theorem small_lt {n : Nat} (h : n ≤ 1000) : (n < sizeLine) = True := by
  have := sizeLine_eq
  simp only [eq_iff_iff, iff_true]
  omega
end
end L2


set_option maxRecDepth 100000
namespace L2
open PySem PySem.Spec PyProof.Rows
section
variable {X : Cx} (K : PySem.W.Frag) (h : X.K = K)
theorem op_addK (h : X.K = K) : OpR X (binaryOp .Add) (rAddA K) := h ▸ op_addA
theorem call_lenK (h : X.K = K) : CallR X (.builtin "len") (rLenA K) := h ▸ call_lenA
theorem op_inK (h : X.K = K) : OpR X (compareOp .In) (rInA K false) := h ▸ op_inA
theorem sl_K (h : X.K = K) : SlR X (rSlA K) := h ▸ sl_A
theorem ix_K (h : X.K = K) : IxR X (rIxA K) := h ▸ ix_A
theorem pi_seqK {tg l : Expr} {tl : TE} (h : X.K = K) (hl : PE X l tl) : PI X tg l (iSeq K tl) := h ▸ pi_seq hl
theorem pg_tupK {es : List Expr} {k : Nat} {pos : Pos} {t : TGs} {n : Nat} (h : X.K = K) (hc : X.calm = true) (hh : PGs X es t)
    (hn : (assignEach es X.env).length = n := by rfl) (hst : (assignEach es X.env).findIdx? (·.1) = none := by rfl) : PG X (.Tuple es k pos) (gTup K n t) := h ▸ pg_tup hc hh hn hst
theorem pe_appendK {o e : Expr} {to te : TE} {apos cpos : Pos} (h : X.K = K) (ho : PE X o to) (he : PE X e te) (hbase : attributeBase o "append" X.env (eval o X.env) = eval o X.env := by rfl)
    (hfew : ((backTo cpos (starEach [e] X.env)).all (fun x => !x.1) && (backToKw cpos (keywordEach [] X.env)).all (fun x => x.1.isSome)
      && decide ([e].length + ([] : List Keyword).length + (if ([] : List Keyword).isEmpty then 0 else 1) < 30)) = true := by rfl)
    (hline : (apos.endLine == cpos.line) = true := by rfl) (hs : starEach [e] X.env = (false, eval e X.env) :: starEach [] X.env := by rfl) (hplain : (backTo cpos (starEach [] X.env)).any (·.1) = false := by rfl) :
    PE X (.Call (.Attribute o "append" apos) [e] [] cpos) (tBM K "list" rAppendA to (tCons te tNil)) := h ▸ pe_append ho he hbase hfew hline hs hplain
end
noncomputable def tMid (t u : TS) : TS := fun D σ H => ∃ M : St → Hp → Prop, t { D with nx := M } σ H ∧ ∀ σ' H', M σ' H' → u D σ' H'
theorem pss_mid {X : Cx} {st : Stmt} {rest : List Stmt} {t u : TS} (h1 : PS X st t) (h2 : PSs X rest u) : PSs X (st :: rest) (tMid t u) := by
  intro pins s σ H D I ⟨M, h, k⟩
  refine wpAny_execs_cons (thn (h1 pins s σ H { D with nx := M } I h) fun f s1 q => ?_)
  cases f with
  | next =>
    obtain ⟨σ', H', I', q⟩ := q
    exact h2 pins s1 σ' H' D I' (k σ' H' q)
  | ret v => exact q
  | brk => exact q
  | cont => exact q
end L2


set_option maxRecDepth 100000
namespace L2
open PySem PySem.Spec PyProof.Rows
noncomputable def isStar : Expr → Bool
  | .Starred .. => true
  | _ => false
theorem starEach_of {e : Expr} {es : List Expr} {env : Env} (h : isStar e = false) : starEach (e :: es) env = (false, eval e env) :: starEach es env := by
  cases e <;> first | rfl | exact absurd h (by simp [isStar])
theorem noStars {pos : Pos} {env : Env} : ∀ {es : List Expr}, es.any isStar = false → (backTo pos (starEach es env)).any (·.1) = false
  | [], _ => rfl
  | e :: es, h => by
    rw [List.any_cons, Bool.or_eq_false_iff] at h
    rw [starEach_of h.1]
    show (false || (backTo pos (starEach es env)).any (·.1)) = false
    rw [noStars h.2]
    rfl
theorem assignEach_of {e : Expr} {es : List Expr} {env : Env} (h : isStar e = false) : (assignEach (e :: es) env).map (·.2) = assign e env :: (assignEach es env).map (·.2) := by
  cases e <;> first | rfl | exact absurd h (by simp [isStar])
theorem assignEach_len {env : Env} : ∀ {es : List Expr}, (assignEach es env).length = es.length
  | [] => rfl
  | e :: es => by
    have ih := @assignEach_len env es
    cases e <;> (show (assignEach es env).length + 1 = es.length + 1; rw [ih])
theorem assignEach_nostar {env : Env} : ∀ {es : List Expr}, es.any isStar = false → (assignEach es env).findIdx? (·.1) = none
  | [], _ => rfl
  | e :: es, h => by
    rw [List.any_cons, Bool.or_eq_false_iff] at h
    have ih := assignEach_nostar (env := env) h.2
    have e1 : assignEach (e :: es) env = (false, assign e env) :: assignEach es env := by
      have := h.1
      cases e <;> first | rfl | exact absurd this (by simp [isStar])
    rw [e1, List.findIdx?_cons, ih]
    rfl
noncomputable def plainTest : Expr → Bool
  | .UnaryOp .Not _ _ => false
  | .BoolOp .. => false
  | .IfExp .. => false
  | .Compare .. => false
  | _ => true
theorem isTrue_of {e : Expr} {env : Env} (h : plainTest e = true) (whole : Sem Value) : isTrue e env whole = (do let v ← whole; standAt e.pos; holding [v] (truthy v)) := by
  cases e with
  | UnaryOp op a p => cases op <;> first | rfl | exact absurd h (by simp [plainTest])
  | BoolOp => exact absurd h (by simp [plainTest])
  | IfExp => exact absurd h (by simp [plainTest])
  | Compare => exact absurd h (by simp [plainTest])
  | _ => rfl
section
variable {X : Cx} {CX : CXT} {k n : Nat} {ps : List Str} {sp : Sp} {x : Str} {p pos : Pos} {e : Expr} {es : List Expr} {t : TA} {te : TE} {id T : String} {r : List V → Hp → VK → Prop}
theorem pa_q (ha : PE X e te) (hr : PA X es t) (h : isStar e = false := by rfl) : PA X (e :: es) (tCons te t) := pa_cons ha hr (starEach_of h)
theorem pe_fnQ [Quiet CX] (G : FnAt X.prog X.w X.K X.mg X.base CX x k ps sp) (hr : Room n X.A) (hk : k ≤ n) (hg : Gl X x) (ha : PA X (e :: es) t)
    (hdb : (x == ("__debug__" : Str)) = false := by decide) (h : (e :: es).any isStar = false := by rfl) : PE X (.Call (.Name x p) (e :: es) [] pos) (tCall sp [] E0 t) := by
  rw [List.any_cons, Bool.or_eq_false_iff] at h
  exact pe_fn G hr hk hg ha hdb (starEach_of h.1) (noStars h.2)
theorem pe_callBQ (hc : CallR X (.builtin id) r) (hg : Gl X x) (hm : X.mg x = none) (hv : bootBuiltins x = some (.builtin id)) (ha : PA X (e :: es) t) (hn : x ≠ "__name__" := by decide) (hdb : (x == ("__debug__" : Str)) = false := by decide)
    (h : (e :: es).any isStar = false := by rfl) : PE X (.Call (.Name x p) (e :: es) [] pos) (tCB r t) := by
  rw [List.any_cons, Bool.or_eq_false_iff] at h
  exact pe_callB hc hg hm hv ha hn hdb (starEach_of h.1) (noStars h.2)
theorem pgs_q {g : TG} {u : TGs} (h1 : PG X e g) (h2 : PGs X es u) (h : isStar e = false := by rfl) : PGs X (e :: es) (gCons g u) := pgs_cons h1 h2 (assignEach_of h)
theorem pg_tupQ (K : PySem.W.Frag) {j n : Nat} {u : TGs} (hK : X.K = K) (hc : X.calm = true) (hh : PGs X es u) (hn : es.length = n := by rfl) (h : es.any isStar = false := by rfl) : PG X (.Tuple es j pos) (gTup K n u) :=
  pg_tupK K hK hc hh (by rw [assignEach_len]; exact hn) (assignEach_nostar h)
theorem pt_q (he : PE X e te) (h : plainTest e = true := by rfl) : PT X e (tB te) := pt_val he (isTrue_of h)
end
end L2
namespace L2
open PySem PySem.Spec PyProof.Rows
noncomputable def isSl : Expr → Bool
  | .Slice .. => true
  | _ => false
noncomputable def isComp : Expr → Bool
  | .ListComp .. => true
  | .SetComp .. => true
  | .DictComp .. => true
  | _ => false
noncomputable def isTup : Expr → Bool
  | .Tuple .. => true
  | _ => false
noncomputable def isSetE : Expr → Bool
  | .Set .. => true
  | _ => false
theorem swaps_of {e : Expr} {tg : Option Expr} {l : Nat} {env : Env} (h : isComp e = false) : swapsWith e tg l env = pure false := by
  cases e <;> first | rfl | exact absurd h (by simp [isComp])
theorem stores_of {tg e : Expr} {env : Env} (h : isTup e = false) : swappedStores [tg] e env = pure none := by
  cases e with
  | Tuple => simp [isTup] at h
  | _ => cases tg <;> rfl
theorem nomarkQ {op : CmpOp} {b : Expr} (h : isSetE b = false) : behindInMarks op b = false := by
  cases b <;> first | rfl | exact absurd h (by simp [isSetE])
section
variable {X : Cx} {pos : Pos}
theorem pg_subQ {o i : Expr} {to ti : TE} {t : TSet} (ho : PE X o to) (hi : PE X i ti) (hs : PSet X t) (h : isSl i = false := by rfl) : PG X (.Subscript o i pos) (gSub to ti t) :=
  pg_sub ho hi hs fun v => by
    rw [arm_assign_Subscript]
    cases i <;> first | rfl | exact absurd h (by simp [isSl])
theorem ps_asgQ {tg e : Expr} {te : TE} {g : TG} (he : PE X e te) (hg : PG X tg g) (h1 : isComp e = false := by rfl) (h2 : isTup e = false := by rfl) (h3 : isStar tg = false := by rfl) : PS X (.Assign [tg] e pos) (tAsg te g) :=
  ps_asg he hg (swaps_of h1) (stores_of h2) (assignEach_of h3)
theorem ps_setQ {i : Nat} {x : Str} {e : Expr} {te : TE} {pos' : Pos} (hN : X.N.Nodup) (hi : X.N[i]? = some x) (hx : Loc X.env.scope x) (he : PE X e te) (h : isComp e = false := by rfl) (hf : X.fn x = true ∨ X.env.scope.names.lookup x = some .local := by first | exact .inl rfl | exact .inr rfl | assumption) :
    PS X (.Assign [.Name x pos'] e pos) (tAsg te (gName i)) := ps_set hN hi hx he (swaps_of h) hf
theorem ps_exprQ {e : Expr} {te : TE} (he : PE X e te) (h : isComp e = false := by rfl) : PS X (.Expr e pos) (tDrop te) := ps_expr he (swaps_of h)
end
end L2
namespace L2
open PySem PySem.Spec PyProof.Rows
noncomputable def tCs (vs : List V) : TA := fun _ H Q => Q vs H
end L2
namespace L2
open PySem PySem.Spec PyProof.Rows
end L2


namespace BitM
end BitM


namespace Rem
end Rem


namespace BitI
open PySem L2
end BitI


namespace Com
open PySem L2
theorem same_upd {H : Hp} {p : Addr} {o : HO} (h : H p = none) : Same H (upd H p o) := fun b u e => by rw [upd_ne (ne_of_none e h)]; exact e
theorem upd_old {H : Hp} {p q : Addr} {o x : HO} (h : H p = some x) (hn : H q = none) : upd H q o p = some x := by rw [upd_ne (ne_of_none h hn)]; exact h
theorem map_int_get {ns : List Int} {i : Nat} {x : V} (h : (ns.map V.int)[i]? = some x) : ∃ c, x = .int c ∧ ns[i]? = some c := by
  rw [List.getElem?_map] at h
  cases e : ns[i]? with
  | none => rw [e] at h; cases h
  | some c => rw [e] at h; cases h; exact ⟨c, rfl, rfl⟩
theorem small_ok {n : Nat} (h : n ≤ 1000) : n ≤ sizeLine := by rw [sizeLine_eq]; omega
theorem ixN_in {n i : Nat} (h : i < n) : ixN n (i : Int) = some i := by
  unfold ixN
  rw [if_pos (by omega), if_pos (by omega)]
  simp
end Com


set_option maxRecDepth 100000
namespace L2
open PySem PySem.Spec PyProof.Rows

structure KlsAt (K : PySem.W.Frag) (mg : Str → Option Value) (x : Str) (C : Addr) : Prop where
  mgC : mg x = some (.ref C)
  cl : Cls K C
  mks : PySem.W.makesIn K C = true
  kp : PySem.W.keepIn K (.ref C) = true
noncomputable def MethAt (K : PySem.W.Frag) (C : Addr) (m q : Str) (st : Stmt) : Prop := ∃ f fd, Fun K m q st f fd ∧ Meth K C m f
noncomputable def MtAt (P : Program) (w : World) (K : PySem.W.Frag) (mg : Str → Option Value) (base : Heap) (CX : CXT) (C : Addr) (m : Str) (k : Nat) (ps : List Str) (sp : Sp) : Prop :=
  ∃ f fd, FnOk P w K mg base CX k f fd ps sp ∧ Meth K C m f ∧ Binds K fd ps []
theorem klsat_mk {K : PySem.W.Frag} {h : Heap} {mg : Str → Option Value} {x : Str} {C : Addr} (X : K.In h) (G : h.Ns mainGlobals mg) (a : PySem.W.nsIn K mainGlobals x = some (some (.ref C)))
    (pg : PySem.W.plainGet K C Str.empty = true) (hd : PySem.W.hasDictIn K C = true) (po : PySem.W.plainOver K C = true) (sa : PySem.W.findIn K (.ref C) "__setattr__" = some (some (.builtin "object.__setattr__"))) (mk : PySem.W.makesIn K C = true) (kc : PySem.W.keepIn K (.ref C) = true) : KlsAt K mg x C :=
  ⟨PySem.W.mg_of X G a, ⟨pg, hd, po, sa⟩, mk, kc⟩
theorem methat_mk {K : PySem.W.Frag} {C : Addr} {m q : Str} {st : Stmt} {f : Addr} {oc : Value} {od an : Option Addr} {osl : Array (Option Value)} {kV doc pm cdv ct : Value}
    (a : PySem.W.findIn K (.ref C) m = some (some (.ref f))) (i : PySem.W.isFn K (.ref f) = true)
    (l : K.lookup f = some ⟨oc, od, .func (PySem.W.fnOf m q (defArgs st) (defBody st) (defScope st) .none kV doc pm an cdv ct), osl⟩) (c : PySem.W.codeIn K cdv q = true) (k : PySem.W.keepIn K (.ref f) = true) : MethAt K C m q st :=
  ⟨f, _, fun_mk l c k, ⟨a, i, k⟩⟩
section
variable {P : Program} {w : World} {K : PySem.W.Frag} {mg : Str → Option Value} {base : Heap} {CX : CXT}
theorem MethAt.fn {C : Addr} {m q : Str} {st : Stmt} {N ps : List Str} {k : Nat} {sp : Sp} (F : MethAt K C m q st) (S : FnScope N ps (defScope st))
    (hb : ∀ (kV doc pm : Value) (an : Option Addr) (cdv ct : Value) (us : List Value), us.length = ps.length → bindArgs (PySem.W.fnOf m q (defArgs st) (defBody st) (defScope st) .none kV doc pm an cdv ct) ⟨us, []⟩ = pure (ps.zip us))
    (len : ∀ vs H Q E, sp vs H Q E → vs.length = ps.length)
    (hbody : ∀ (f : Addr) (cdv : Value) (A : Around) (outer : List Env) (s : Shared) (H : Hp) (vs : List V) (Q : VK) (E : XK), Room k (A.deeper (envOfC q (defScope st) s.heap.objs.size f cdv)) → sp vs H Q E →
      ∃ t, PSs (cxOf CX P w K mg base N q (defScope st) f cdv A outer s H E).nox (defBody st) t ∧ t { nx := fun _ H' => Q .non H', rt := Q } (start N vs) H) : MtAt P w K mg base CX C m (k + 1) ps sp := by
  obtain ⟨f, fd, F, hm⟩ := F
  have bd := F.binds hb
  obtain ⟨oc, od, kV, doc, pm, an, cdv, ct, osl, rfl, lk, hcd⟩ := F.ex
  refine ⟨f, _, fn_of lk hcd S len fun A outer s H vs Q E hr hsp => ?_, hm, bd⟩
  obtain ⟨t, h, q⟩ := hbody f cdv A outer s H vs Q E hr hsp
  exact ⟨t, h.nox, q⟩
end

noncomputable def rMt (C : Addr) (m : Str) (x : V) (H : Hp) (N : Prop) : Prop := ∃ a, x = .ref a ∧ ∃ dx fs, H a = some (.ins C dx fs) ∧ fs.lookup m = none ∧ N
theorem ex_ins {C d : Addr} {l : List (Str × V)} {N : Addr → List (Str × V) → Prop} : (∃ dx fs, some (HO.ins C d l) = some (HO.ins C dx fs) ∧ N dx fs) = N d l := by
  apply propext; constructor
  · rintro ⟨dx, fs, e, h⟩; cases e; exact h
  · exact fun h => ⟨d, l, rfl, h⟩
theorem same_new {H : Hp} {x dx C : Addr} {fs : List (Str × V)} (nx : H x = none) (nd : H dx = none) : Same H (upd (upd H dx (.own x)) x (.ins C dx fs)) := fun b o e => by
  rw [upd_ne (ne_of_none e nx), upd_ne (ne_of_none e nd)]; exact e
section
variable {X : Cx} {C : Addr} {o e value : Expr} {es : List Expr} {f m x : Str} {p pos pos' tpos apos : Pos} {ta tv : TE} {t : TA} {k n : Nat} {ps : List Str} {sp : Sp}
end
end L2


set_option maxRecDepth 100000
namespace L2
open PySem PySem.Spec PyProof.Rows
theorem atI_n {α : Type} {xs : List α} {i : Nat} {x : α} (h : xs[i]? = some x) : atI xs (i : Int) = some x := by
  have hl : i < xs.length := (List.getElem?_eq_some_iff.mp h).1
  unfold atI ixN
  rw [if_pos (by omega), if_pos (by omega)]
  exact h
theorem atI_0 {α : Type} {a : α} {l : List α} : atI (a :: l) 0 = some a := atI_n (i := 0) rfl
theorem atI_1 {α : Type} {a b : α} {l : List α} : atI (a :: b :: l) 1 = some b := atI_n (i := 1) rfl
end L2


namespace MeterM
end MeterM
namespace MeterM
end MeterM


namespace WaysM
structure IsLow (t b t' b' s : Int) : Prop where
  s0 : 0 < s
  tt : t = s * t'
  bb : b = s * b'
  t0 : 0 ≤ t'
  b0 : 0 < b'
  od : ¬ (t' % 2 = 0 ∧ b' % 2 = 0)
  tl : t' ≤ t
  bl : b' ≤ b
end WaysM


set_option maxRecDepth 100000
namespace L2
open PySem PySem.Spec PyProof.Rows
end L2
namespace L2
end L2
namespace WaysI
open PySem L2
end WaysI


set_option maxRecDepth 100000
namespace L2
open PySem PySem.Spec PyProof.Rows
end L2


set_option maxRecDepth 100000
namespace L2
open PySem PySem.Spec PyProof.Rows
end L2


set_option maxRecDepth 100000
namespace L2
open PySem PySem.Spec PyProof.Rows
section
variable {X : Cx} {i o e value : Expr} {ti to te tv : TE} {pos pos' apos cpos : Pos}
end
end L2


set_option maxRecDepth 100000
namespace L2
open PySem PySem.Spec PyProof.Rows
end L2


set_option maxRecDepth 100000
namespace L2
open PySem PySem.Spec PyProof.Rows
end L2


set_option maxRecDepth 100000
namespace L2
open PySem PySem.Spec PyProof.Rows
section
variable {X : Cx} {K : PySem.W.Frag}
end
end L2


set_option maxRecDepth 100000
namespace L2
open PySem PySem.Spec PyProof.Rows
section
variable {X : Cx} {a b c d : Expr} {ta tb tc td : TE} {pos : Pos}
end
end L2


set_option maxRecDepth 100000
namespace L2
open PySem PySem.Spec PyProof.Rows
section
variable {X : Cx} {i o e value : Expr} {ti to te tv : TE} {pos pos' apos cpos : Pos}
end
end L2


set_option maxRecDepth 100000
namespace L2
open PySem PySem.Spec PyProof.Rows
section
variable {X : Cx} {pins : List (Addr × Obj)} {σ : St} {H : Hp} {s : Shared} {h' : Heap}
end
section
variable {X : Cx} {elts : List Expr} {x1 : _} {tpos : Pos}
end
section
variable {K : PySem.W.Frag} {g : TG} {tb : TS} {D : Ends} {σ : St} {H : Hp} {ta : TA}
end
end L2


set_option maxRecDepth 100000
namespace L2
open PySem PySem.Spec PyProof.Rows
section
variable {X : Cx} {o e f : Expr} {to te tf : TE} {apos cpos : Pos}
end
section
variable {X : Cx} {pos : Pos}
structure QE (X : Cx) (e : Expr) (t : TE) : Prop where
  h : PE X e t
structure QS (X : Cx) (st : Stmt) (t : TS) : Prop where
  h : PS X st t
structure QSs (X : Cx) (l : List Stmt) (t : TS) : Prop where
  h : PSs X l t
theorem qss_one {st : Stmt} {t : TS} (h1 : QS X st t) : QSs X [st] t := ⟨pss_one h1.h⟩
theorem qss_cons {st : Stmt} {rest : List Stmt} {t u : TS} (h1 : QS X st t) (h2 : QSs X rest u) : QSs X (st :: rest) (tSeq t u) := ⟨pss_cons h1.h h2.h⟩
theorem qs_setQ {i : Nat} {x : Str} {e : Expr} {te : TE} {pos' : Pos} (hN : X.N.Nodup) (hi : X.N[i]? = some x) (hx : Loc X.env.scope x) (he : QE X e te) (h : isComp e = false := by rfl) (hf : X.fn x = true ∨ X.env.scope.names.lookup x = some .local := by first | exact .inl rfl | exact .inr rfl | assumption) :
    QS X (.Assign [.Name x pos'] e pos) (tAsg te (gName i)) := ⟨ps_setQ hN hi hx he.h h hf⟩
end
end L2


set_option maxRecDepth 100000
namespace L2
open PySem PySem.Spec PyProof.Rows
section
variable {X : Cx} {elts : List Expr} {x1 : _} {tpos : Pos}
end
section
variable {nv : Nat} {ix : List Nat} {g : TG} {tt : TT} {te : TE} {tb : TS} {D : Ends} {σ : St} {H : Hp} {ta : TA} {Q : VK}
end
section
variable {K : PySem.W.Frag} {g : TG} {tt : TT} {te : TE} {H : Hp} {σ : St} {Q : List V → Hp → Prop}
theorem co_any {J : It} {n : Nat} (Pv : Nat → List V → St → Hp → Prop) (h0 : Pv 0 [] σ H) (hz : n ≤ sizeLine) (hl : ∀ i ys σ H, Pv i ys σ H → ys.length ≤ i) (go : ∀ i ys σ H, i < n → Pv i ys σ H → J.go i H) (stop : ∀ ys σ H, Pv n ys σ H → J.stop n H)
    (step : ∀ i ys σ H x H'', i < n → Pv i ys σ H → J.yld i H x H'' → g x σ H'' fun σ2 H2 => tt σ2 H2 fun b H3 => if b = true then te σ2 H3 fun y H4 => Pv (i + 1) (ys ++ [y]) σ2 H4 else Pv (i + 1) ys σ2 H3) (q : ∀ ys σ H, Pv n ys σ H → Q ys H) : compR J g tt te σ H Q := by
  refine ⟨fun i m ys σ' H' => i ≤ n ∧ m = n - i ∧ Pv i ys σ' H', ⟨n, Nat.zero_le _, rfl, h0⟩, ?_⟩
  rintro i m ys σ' H' ⟨hi, rfl, hp⟩
  by_cases e : i = n
  · subst e
    exact .inl ⟨stop _ _ _ hp, q _ _ _ hp⟩
  · have hlt : i < n := by omega
    refine .inr ⟨go i _ _ _ hlt hp, by have := hl _ _ _ _ hp; omega, fun ys' σ'' H'' => Pv (i + 1) ys' σ'' H'', fun ys' σ'' H'' p' => ⟨n - (i + 1), by omega, by omega, rfl, p'⟩, fun x H'' y => step i ys σ' H' x H'' hlt hp y⟩
theorem co_listH {a : Addr} {xs : List V} (hS : SqL K H a xs) (hz : xs.length ≤ sizeLine) (Pv : Nat → List V → St → Hp → Prop) (h0 : Pv 0 [] σ H) (hl : ∀ i ys σ H, Pv i ys σ H → ys.length ≤ i) (hk : ∀ i ys σ H, Pv i ys σ H → SqL K H a xs)
    (step : ∀ (i : Nat) x ys σ H, xs[i]? = some x → Pv i ys σ H → g x σ H fun σ2 H2 => tt σ2 H2 fun b H3 => if b = true then te σ2 H3 fun y H4 => Pv (i + 1) (ys ++ [y]) σ2 H4 else Pv (i + 1) ys σ2 H3) (q : ∀ ys σ H, Pv xs.length ys σ H → Q ys H) : seqR K (.ref a) H fun J H2 => compR J g tt te σ H2 Q := by
  refine .inl ⟨xs, hS, co_any (n := xs.length) Pv h0 hz hl (fun i ys σ H hi hp => ⟨xs, xs[i], hk _ _ _ _ hp, by simp [hi]⟩) (fun ys σ H hp => ⟨xs, hk _ _ _ _ hp, Nat.le_refl _⟩) (fun i ys σ H x H'' hi hp y => ?_) q⟩
  obtain ⟨e, hx⟩ := y
  subst e
  exact step i x ys σ _ (hx xs (hk _ _ _ _ hp)) hp
end
end L2


set_option maxRecDepth 100000
namespace L2
open PySem PySem.Spec PyProof.Rows
noncomputable def ExO (h : Heap) (e : Addr) (cls : Value) (dx tb : Option Addr) : Prop :=
  ∃ oe vs, h.get? e = some oe ∧ oe.cls = cls ∧ oe.dict = dx ∧ oe.data = .fields vs ∧ 1 < vs.size ∧ (match tb with
    | none => vs[1]? = some .none
    | some T => vs[1]? = some (.ref T) ∧ T ≠ e ∧ ∃ oT ts, h.get? T = some oT ∧ oT.data = .fields ts ∧ ts[3]? = some .none)
structure Lft (S : List Addr) (e : Addr) (tb : Option Addr) (h h' : Heap) : Prop where
  keep : ∀ b o, b ∉ S → b ≠ e → (∀ T, tb = some T → b ≠ T) → h.get? b = some o → h'.get? b = some o
  slot : ∀ b o, b ∈ S → h.get? b = some o → ∃ sl, h'.get? b = some { o with slots := sl }
  there : ∀ b o, h.get? b = some o → ∃ o', h'.get? b = some o'
section
variable {M : Model} {A : Around} {E : Value → Shared → Prop} {s : Shared}
theorem dict_mapFields (f : Array Value → Array Value) (o : Obj) : (Obj.mapFields f o).dict = o.dict := by
  unfold Obj.mapFields
  split <;> rfl
noncomputable abbrev rowO (top : Value) (L : Addr) (ps : List Value) : Obj := { cls := .type "traceback", dict := none, data := .fields ([top, .ref L, .none, rawInt L, .none] ++ (if ps.isEmpty then List.replicate 6 Value.none else ps)).toArray }
theorem entry_x {base : Heap} {env : Env} {outer : List Env} {L e : Addr} {oe : Obj} {vs : Array Value} {top : Value} {had : Bool} {Q : Unit → Shared → Prop}
    (hfr : A.frames = some (env :: outer)) (hl : s.heap.FunFrames base (env :: outer)) (hf : env.frame = some L)
    (he : s.heap.get? e = some oe) (hd : oe.data = .fields vs) (hsz : 1 < vs.size)
    (h : ∀ h', ExO h' e oe.cls oe.dict (some s.heap.objs.size) → Lft ((env :: outer).filterMap (·.frame)) e none s.heap h' → Q () { s with heap := h' }) :
    wpAny M A (do let a ← frameOf env; let pl ← entryPlaceOf L had; let b ← EntryCells.newEntry top a .none (rawInt L) .none pl; setField (.ref e) 1 b) (fun _ s' => wpAny M A (setFlight (.ref e) none) Q E s') E s := by
  have out : e ∉ (env :: outer).filterMap (·.frame) := fun hm => by
    obtain ⟨_, o', ho', no⟩ := hl.mem hm
    cases he.symm.trans ho'
    exact no vs hd
  refine wpAny_bind (wpAny_frameOf_fun hfr hl hf fun k ks => wpAny_bind (wpAny_entryPlaceOf fun ps hps => ?_))
  unfold EntryCells.newEntry newFields
  refine wpAny_bind (wpAny_newObj_type ?_ (hps.sizeOk5 _ _ _ _ _))
  have ke : k.get? e = some oe := (ks.2.1 e out).trans he
  have far : k.objs.size ≠ e := Nat.ne_of_gt (Heap.lt_size ke)
  have esz : k.objs.size = s.heap.objs.size := ks.1
  have de := Obj.data_mapFields hd (·.setIfInBounds 1 (Value.ref k.objs.size))
  have e1 := Heap.get?_push_of_some (h := k) (rowO top L ps) ke
  have e2 := Heap.get?_update_self (Obj.mapFields (·.setIfInBounds 1 (Value.ref k.objs.size))) e1 (Obj.isFreed_of_fields de)
  have r2 := (Heap.get?_update_other (k.push (rowO top L ps)) (Obj.mapFields (·.setIfInBounds 1 (Value.ref k.objs.size))) (Ne.symm far)).trans (Heap.get?_push_size k rfl)
  refine wpAny_setField e1 hd hsz ?_
  unfold setFlight
  refine wpAny_bind (wpAny_field e2 de (x := .ref k.objs.size) (by simp [hsz]) ?_)
  rw [if_pos (by simp)]
  have r3 := Heap.get?_update_self (Obj.mapFields (·.setIfInBounds 3 ((none : Option Addr).elim Value.none fun f => rawInt f))) r2 (Obj.isFreed_of_fields (Obj.data_mapFields rfl _))
  refine wpAny_setField r2 rfl (by simp only [List.size_toArray, List.length_append, List.length_cons, List.length_nil] <;> omega) (h _ ?_ ?_)
  · rw [← esz]
    refine ⟨_, _, ?_, Obj.cls_mapFields _ _, dict_mapFields _ _, de, by simp [hsz], by simp [hsz], far, _, _, r3, Obj.data_mapFields rfl _, ?_⟩
    · rw [Heap.get?_update_other _ _ far]; exact e2
    · first | (simp; done) | (rcases hps with rfl | ⟨_, _, _, _, _, _, _, rfl⟩ <;> simp)
  · have keep : ∀ b o, b ≠ e → k.get? b = some o → (((k.push (rowO top L ps)).update e (Obj.mapFields (·.setIfInBounds 1 (Value.ref k.objs.size)))).update k.objs.size (Obj.mapFields (·.setIfInBounds 3 ((none : Option Addr).elim Value.none fun f => rawInt f)))).get? b = some o := fun b o ne hb => by
      rw [Heap.get?_update_other _ _ (Nat.ne_of_gt (Heap.lt_size hb)), Heap.get?_update_other _ _ (Ne.symm ne)]
      exact Heap.get?_push_of_some _ hb
    refine ⟨fun b o hS ne _ hb => keep b o ne ((ks.2.1 b hS).trans hb), fun b o hS hb => ?_, fun b o hb => ?_⟩
    · obtain ⟨sl, q⟩ := ks.2.2 b o hb
      exact ⟨sl, keep b _ (fun z => out (z ▸ hS)) q⟩
    · by_cases z : b = e
      · subst z
        rw [Heap.get?_update_other _ _ far]
        exact ⟨_, e2⟩
      · obtain ⟨sl, q⟩ := ks.2.2 b o hb
        exact ⟨_, keep b _ z q⟩
theorem note_x {base : Heap} {env : Env} {outer : List Env} {L e : Addr} {cls : Value} {dx tb : Option Addr} {Q : Unit → Shared → Prop}
    (hfr : A.frames = some (env :: outer)) (hl : s.heap.FunFrames base (env :: outer)) (hf : env.frame = some L) (hx : ExO s.heap e cls dx tb)
    (h : ∀ h', ExO h' e cls dx (some s.heap.objs.size) → Lft ((env :: outer).filterMap (·.frame)) e tb s.heap h' → Q () { s with heap := h' }) : wpAny M A (noteFrame (.ref e) env) (fun _ s' => wpAny M A (setFlight (.ref e) none) Q E s') E s := by
  obtain ⟨oe, vs, he, rfl, rfl, hd, hsz, ht⟩ := hx
  unfold noteFrame
  simp only [hf]
  cases tb with
  | none =>
    refine wpAny_bind (wpAny_field he hd ht ?_)
    rw [if_neg (by decide)]
    exact entry_x hfr hl hf he hd hsz h
  | some T =>
    obtain ⟨h1, ne, oT, ts, hT, dT, h3⟩ := ht
    have apart : ∀ b o, s.heap.get? b = some o → (∀ ws, o.data ≠ .fields ws) → b ≠ T := fun b o hb no z => by
      subst z
      cases hb.symm.trans hT
      exact no ts dT
    have out : T ∉ (env :: outer).filterMap (·.frame) := fun hm => by
      obtain ⟨_, o', ho', no⟩ := hl.mem hm
      exact apart T o' ho' no rfl
    refine wpAny_bind (wpAny_field he hd h1 ?_)
    rw [if_pos (by simp)]
    refine wpAny_bind (wpAny_field hT dT h3 ?_)
    rw [if_neg (by simp [rawInt])]
    refine wpAny_bind (wpAny_setField hT dT (Array.getElem?_eq_some_iff.mp h3).1 ?_)
    have oth : ∀ b, b ≠ T → (s.heap.update T (Obj.mapFields (·.setIfInBounds 3 Value.none))).get? b = s.heap.get? b := fun b z => Heap.get?_update_other _ _ (Ne.symm z)
    have self := Heap.get?_update_self (Obj.mapFields (·.setIfInBounds 3 Value.none)) hT (Obj.isFreed_of_fields (Obj.data_mapFields dT _))
    have fr := hl.of_keeps (h' := s.heap.update T (Obj.mapFields (·.setIfInBounds 3 Value.none))) fun b o hb no => ⟨o, (oth b (apart b o hb no)).trans hb, rfl⟩
    refine entry_x (oe := oe) (vs := vs) hfr fr hf ((oth e (Ne.symm ne)).trans he) hd hsz fun h' x k => ?_
    have sz : (s.heap.update T (Obj.mapFields (·.setIfInBounds 3 Value.none))).objs.size = s.heap.objs.size := Heap.size_update ..
    change ExO h' e oe.cls oe.dict (some (s.heap.update T (Obj.mapFields (·.setIfInBounds 3 Value.none))).objs.size) at x
    rw [sz] at x
    refine h h' x ⟨fun b o hS z zT hb => k.keep b o hS z (fun _ q => by cases q) ((oth b (zT T rfl)).trans hb), fun b o hS hb => k.slot b o hS ((oth b (fun q => out (q ▸ hS))).trans hb), fun b o hb => ?_⟩
    by_cases q : b = T
    · exact q ▸ k.there _ _ self
    · exact k.there b o ((oth b q).trans hb)
theorem leaving_x {base : Heap} {env : Env} {outer : List Env} {L e : Addr} {cls : Value} {dx tb : Option Addr} {Q : Unit → Shared → Prop}
    (hfr : A.frames = some (env :: outer)) (hl : s.heap.FunFrames base (env :: outer)) (hf : env.frame = some L) (hx : ExO s.heap e cls dx tb)
    (h : ∀ h', ExO h' e cls dx (some s.heap.objs.size) → Lft ((env :: outer).filterMap (·.frame)) e tb s.heap h' → Q () { s with heap := h' }) : wpAny M A (leaving env (.ref e)) Q E s := wpAny_bind (note_x hfr hl hf hx h)
end
noncomputable def CX1 (P : Program) (w : World) : CXT := fun outer H s E e s' => ∃ ea cls dx T H', e = .ref ea ∧ s'.os = s.os ∧ AllBare s'.gens ∧ Un (frs outer) [] H H' s.heap s'.heap ∧ HOk P w H' s'.heap ∧ ExO s'.heap ea cls dx (some T) ∧
  (s.heap.get? ea = none ∧ s.heap.get? T = none ∧ H' ea = none ∧ H' T = none) ∧ E cls dx H'
noncomputable instance {P : Program} {w : World} : Quiet (CX1 P w) := ⟨fun X pins σ H s e s' I h => by
  obtain ⟨_, _, _, _, _, _, _, _, _, _, _, _, h⟩ := h
  exact h.elim⟩
structure Fly (X : Cx) (pins : List (Addr × Obj)) (σ : St) (H : Hp) (s : Shared) (ea : Addr) (cls : Value) (dx tb : Option Addr) : Prop where
  inv : Inv X pins σ H s
  ex : ExO s.heap ea cls dx tb
  n0 : X.s₀.heap.get? ea = none
  nH : H ea = none
  tbs : ∀ T, tb = some T → X.s₀.heap.get? T = none ∧ H T = none
  apart : ∀ p ∈ X.pn ++ pins, p.1 ≠ ea ∧ ∀ T, tb = some T → p.1 ≠ T
noncomputable def Rz (X : Cx) (E : XK) : Prop := ∀ pins σ H s ea cls dx tb, Fly X pins σ H s ea cls dx tb → E cls dx H → X.xe (.ref ea) s
section
variable {P : Program} {w : World} {K : PySem.W.Frag} {mg : Str → Option Value} {base : Heap} {N : List Str} {qual : Str} {scope : Scope} {f : Addr} {cd : Value} {A : Around} {outer : List Env} {s : Shared} {H : Hp} {E : XK}
theorem rz_fn : Rz (cxOf (CX1 P w) P w K mg base N qual scope f cd A outer s H E) E := by
  intro pins σ H1 s1 ea cls dx tb F hE
  have I := F.inv
  have hst : (cxOf (CX1 P w) P w K mg base N qual scope f cd A outer s H E).stack = envOfC qual scope s.heap.objs.size f cd :: outer := rfl
  show wpAny (model P w) (A.deeper (envOfC qual scope s.heap.objs.size f cd)) (leaving (envOfC qual scope s.heap.objs.size f cd) (.ref ea)) _ _ s1
  refine leaving_x (base := base) (L := s.heap.objs.size) (by have := I.ok.frames; exact this) (by have := I.stack; exact this) rfl F.ex fun h' hx hk => ?_
  have hfree : ∀ b ∈ frs (envOfC qual scope s.heap.objs.size f cd :: outer), H1 b = none := I.stkFree
  have hin : ∀ b, b ∈ (envOfC qual scope s.heap.objs.size f cd :: outer).filterMap (·.frame) → b = s.heap.objs.size ∨ b ∈ frs outer := fun b hb => by
    rw [List.filterMap_cons] at hb
    exact (List.mem_cons.mp hb).elim .inl .inr
  have hne : ∀ b o, s.heap.get? b = some o → b ≠ ea ∧ (∀ T, tb = some T → b ≠ T) ∧ b ≠ s.heap.objs.size := fun b o e =>
    ⟨fun q => (by have h1 : s.heap.get? ea = none := F.n0; rw [q, h1] at e; cases e),
     fun T hT q => (by have h1 : s.heap.get? T = none := (F.tbs T hT).1; rw [q, h1] at e; cases e),
     Nat.ne_of_lt (Heap.lt_size e)⟩
  have B : Un (frs outer) [] H H1 s.heap s1.heap := I.base
  refine ⟨ea, cls, dx, _, H1, rfl, I.os, I.bare, ⟨fun b o q n hb hx => ?_, fun b o q n hb hx => ?_, B.free, fun b o q hx => ?_, B.tups, B.frzs, B.tbls⟩, fun b o q => ?_, hx, ⟨F.n0, ?_, F.nH, I.hok.fresh (Nat.le_refl _)⟩, hE⟩
  · obtain ⟨n1, n2, n3⟩ := hne b o q
    exact hk.keep b o (fun hm => (hin b hm).elim n3 hb) n1 n2 (B.keep b o q n hb hx)
  · obtain ⟨sl, e⟩ := B.slot b o q n hb hx
    obtain ⟨sl', e'⟩ := hk.slot b _ (by rw [List.filterMap_cons]; exact List.mem_cons_of_mem _ hb) e
    exact ⟨sl', e'⟩
  · obtain ⟨o', e⟩ := B.there b o q hx
    exact hk.there b o' e
  · have some_ne : ∀ c u, H1 c = some u → c ∉ (envOfC qual scope s.heap.objs.size f cd :: outer).filterMap (·.frame) ∧ c ≠ ea ∧ ∀ T, tb = some T → c ≠ T := fun c u e =>
      ⟨fun hm => (by rw [hfree c hm] at e; cases e), fun z => (by rw [z, F.nH] at e; cases e), fun T hT z => (by rw [z, (F.tbs T hT).2] at e; cases e)⟩
    refine (I.hok b o q).stay (fun c u hc e => ?_) (fun c e => e) (fun c xs e => e)
    rcases hc with z | z
    · obtain ⟨m1, m2, m3⟩ := some_ne b o q
      subst z
      exact hk.keep _ u m1 m2 m3 e
    · obtain ⟨m1, m2, m3⟩ := some_ne c _ z
      exact hk.keep c u m1 m2 m3 e
  · exact Heap.get?_none_of_le I.sz
end
section
variable {X : Cx} {E : XK}
theorem fly_of {pins : List (Addr × Obj)} {σ : St} {H : Hp} {s s' : Shared} {e : Value} (hex : X.ex = []) (I : Inv X pins σ H s) (h : CX1 X.prog X.w X.stack H s E e s') : ∃ ea cls dx T H', e = .ref ea ∧ Fly X pins σ H' s' ea cls dx (some T) ∧ E cls dx H' := by
  obtain ⟨ea, cls, dx, T, H', rfl, os, bare, un, hok, hx, ⟨n1, n2, n3, n4⟩, hE⟩ := h
  have I' := I.call' (ch := []) os un hok bare (fun b z => absurd z (by simp))
  have old : ∀ b, s.heap.get? b = none → X.s₀.heap.get? b = none := fun b hb => by
    cases q : X.s₀.heap.get? b with
    | none => rfl
    | some o =>
      obtain ⟨o', e⟩ := I.base.there b o q (by rw [hex]; simp)
      rw [hb] at e; cases e
  refine ⟨ea, cls, dx, T, H', rfl, ⟨I', hx, old ea n1, n3, (fun T' e => by cases e; exact ⟨old T n2, n4⟩), fun p hp => ⟨fun z => ?_, fun T' e z => ?_⟩⟩, hE⟩
  · have q := (I.pin p hp).1
    rw [z, n1] at q; cases q
  · cases e
    have q := (I.pin p hp).1
    rw [z, n2] at q; cases q
end
theorem ObjOk.there {P : Program} {w : World} {H : Hp} {h : Heap} {a : Addr} {o : HO} (x : ObjOk P w H h a o) : ∃ u, h.get? a = some u := by
  cases o with
  | lst xs => obtain ⟨_, _, _, _, e⟩ := x; exact ⟨_, e⟩
  | tup xs => obtain ⟨_, _, _, ⟨o, e, _⟩⟩ := x; exact ⟨_, e⟩
  | dK kvs => obtain ⟨_, _, _, _, o, _, _, e, _⟩ := x; exact ⟨_, e⟩
  | dT kvs => obtain ⟨_, _, _, _, o, _, _, e, _⟩ := x; exact ⟨_, e⟩
  | set S n => obtain ⟨o, _, _, _, e, _⟩ := x; exact ⟨_, e⟩
  | ins C dx fs => obtain ⟨_, _, _, e, _⟩ := x; exact ⟨_, e⟩
  | own y => obtain ⟨_, e⟩ := x; exact ⟨_, e⟩
  | xd fs => obtain ⟨_, ⟨_, _, _, e, _⟩, _⟩ := x; exact ⟨_, e⟩
  | rng lo hi => obtain ⟨_, _, _, e⟩ := x; exact ⟨_, e⟩
  | frz ob u => obtain ⟨e, _⟩ := x; exact ⟨_, e⟩
  | tbl ps => exact ⟨_, (show h.get? a = some _ from x)⟩
  | met f y => exact ⟨_, (show h.get? a = some _ from x)⟩
  | ext φ => obtain ⟨_, e, _⟩ := x; exact e
noncomputable abbrev vErr : List Value := [.type "ValueError", .type "Exception", .type "BaseException", .type "object"]
structure XcAt (K : PySem.W.Frag) (mg : Str → Option Value) (x : Str) (C R : Addr) (ini : Option Value) : Prop where
  mgC : mg x = some (.ref C)
  cls : ∃ N nm q bs sn sub ab col dd k0 k1 k2 k3 k5, K.lookup C = some (excClassObj nm q C N bs (.ref R :: vErr) true sn sub ab col dd k0 k1 k2 k3 k5 "ValueError.__new__") ∧ PySem.W.nsOkIn K N = true ∧ PySem.W.nsIn K N "__init__" = some ini ∧ PySem.W.nsIn K N "__setattr__" = some none
  road : ∃ c0 dd cd sl, K.lookup R = some { cls := c0, dict := dd, data := .cls cd, slots := sl } ∧ PySem.W.nsOkIn K cd.ns = true ∧ PySem.W.nsIn K cd.ns "__init__" = some none ∧ PySem.W.nsIn K cd.ns "__setattr__" = some none
theorem xcat_mk {K : PySem.W.Frag} {h : Heap} {mg : Str → Option Value} {x : Str} {C R N : Addr} {ini : Option Value} {nm q : Str} {bs : List Value} {sn : List Str} {sub : List Value} {ab : Bool} {col : Option Bool} {dd ddR : Option Addr} {k0 k1 k2 k3 k5 : Option Value} {c0 : Value} {cd : ClassData} {sl : Array (Option Value)} (X : K.In h) (G : h.Ns mainGlobals mg)
    (a : PySem.W.nsIn K mainGlobals x = some (some (.ref C))) (l : K.lookup C = some (excClassObj nm q C N bs (.ref R :: vErr) true sn sub ab col dd k0 k1 k2 k3 k5 "ValueError.__new__")) (o : PySem.W.nsOkIn K N = true) (i : PySem.W.nsIn K N "__init__" = some ini) (t : PySem.W.nsIn K N "__setattr__" = some none)
    (l' : K.lookup R = some { cls := c0, dict := ddR, data := .cls cd, slots := sl }) (o' : PySem.W.nsOkIn K cd.ns = true) (i' : PySem.W.nsIn K cd.ns "__init__" = some none) (t' : PySem.W.nsIn K cd.ns "__setattr__" = some none) : XcAt K mg x C R ini :=
  ⟨PySem.W.mg_of X G a, ⟨N, nm, q, bs, sn, sub, ab, col, dd, k0, k1, k2, k3, k5, l, o, i, t⟩, ⟨c0, ddR, cd, sl, l', o', i', t'⟩⟩
theorem XcAt.tail {K : PySem.W.Frag} {mg : Str → Option Value} {x : Str} {C R : Addr} {ini : Option Value} (c : XcAt K mg x C R ini) {h : Heap} (X : K.In h) : OwnTail h vErr (.ref R :: vErr) := by
  obtain ⟨c0, dd, cd, sl, l, o, i, _⟩ := c.road
  exact .own (X _ _ l) (.of_isNs (PySem.W.isNs_of_in X o)) (PySem.W.nsMap_none_of_in X o i) .base
section
variable {X : Cx} {E : XK}
noncomputable def tRaise0 (E : XK) (C : Addr) : TS := fun _ _ H => E (.ref C) none H
end
end L2


set_option maxRecDepth 100000
set_option maxHeartbeats 1000000
namespace L2
open PySem PySem.Spec PyProof.Rows
section
variable {prog : Program} {w : World} {A : Around} {s : Shared} {K : PySem.W.Frag} {x C R : Addr} {cd : ClassData} {name : Str} {v : Value}
theorem set_x {E : Value → Shared → Prop} {vs : Array Value} {Q : Unit → Shared → Prop} (X : K.In s.heap) (hx : s.heap.get? x = some ⟨.ref C, none, .fields vs, #[]⟩) (hc : PySem.W.clsIn K C = some cd) (hm : cd.mro = .ref C :: .ref R :: vErr) (hd : cd.hasDict = true)
    (hs : PySem.W.findIn K (.ref C) "__setattr__" = some (some (.builtin "object.__setattr__"))) (ha : PySem.W.findIn K (.ref C) name = some none)
    (h : ∀ h' t', h'.get? x = some ⟨.ref C, some s.heap.objs.size, .fields vs, #[]⟩ → h'.Ns1 s.heap.objs.size (fun y => if y = name then some v else none) → (∀ b o, b ≠ x → s.heap.get? b = some o → h'.get? b = some o) → Q () { s with heap := h', toks := t' }) :
    wpAny (model prog w) A (setAttr (.ref x) name v) Q E s := by
  have I : PySem.W.InstAt s.heap x ⟨.ref C, none, .fields vs, #[]⟩ C none := ⟨hx, rfl, rfl, True.intro⟩
  have F := PySem.F.store_object
  have lc : PySem.W.Looks (model prog w) s.heap (classData C) cd := PySem.W.looks_clsIn X hc
  have sub : PySem.W.Looks (model prog w) s.heap (isInstance (.ref x) (.type "object")) true := I.type.andThen (PySem.W.looks_mroIn X (by unfold PySem.W.mroIn; rw [hc, Option.bind_some, hm]; rfl))
  have mro : PySem.W.Looks (model prog w) s.heap (mroOf (.ref C)) cd.mro := lc.andThen .now
  refine PySem.W.set_plain X I hs ?_
  refine codeAny_call_builtin F.slot.plain F.entry ?_
  refine @PySem.W.check_slot (model prog w) _ _ { s with toks := s.toks + 1 } "object.__setattr__" "object" "__setattr__" (.ref x) [.str name s.toks, v] [] _ F.kind F.split sub (F.args (.ref x) (.str name s.toks) v) ?_
  rw [PySem.W.osa_eq, refuse_eq]
  refine wpAny_bind (wpAny_bind (I.type.here (s := { s with toks := s.toks + 1 }) (wpAny_bind (mro.here (s := { s with toks := s.toks + 1 }) ?_))))
  rw [hm, refuseLoop_ref, refuseLoop_ref, PySem.F.store_ValueError.passes]
  refine wpAny_pure (wpAny_bind (I.type.here (s := { s with toks := s.toks + 1 }) (wpAny_bind ((PySem.W.looks_findIn X ha).here (s := { s with toks := s.toks + 1 }) (wpAny_bind (wpAny_pure ?_))))))
  refine wpAny_bind (wpAny_pure (wpAny_bind (wpAny_bind (wpAny_loadPart (s := { s with toks := s.toks + 1 }) hx (wpAny_bind (lc.here (s := { s with toks := s.toks + 1 }) ?_))))))
  rw [hd, if_neg (by decide)]
  have sx : x ≠ s.heap.objs.size := Nat.ne_of_lt (Heap.lt_size hx)
  have h1 : (s.heap.push { cls := .type "dict", data := .dict #[] }).get? x = some ⟨.ref C, none, .fields vs, #[]⟩ := Heap.get?_push_of_some _ hx
  have h2 := Heap.get?_update_self (fun o : Obj => { cls := o.cls, dict := some s.heap.objs.size, data := o.data, slots := o.slots }) h1 rfl
  have h3 : ((s.heap.push { cls := .type "dict", data := .dict #[] }).update x fun o => { cls := o.cls, dict := some s.heap.objs.size, data := o.data, slots := o.slots }).get? s.heap.objs.size = some { cls := .type "dict", data := .dict #[] } :=
    (Heap.get?_update_other _ _ sx).trans (Heap.get?_push_size _ rfl)
  have hn : ((s.heap.push { cls := .type "dict", data := .dict #[] }).update x fun o => { cls := o.cls, dict := some s.heap.objs.size, data := o.data, slots := o.slots }).Ns s.heap.objs.size (fun _ => none) :=
    ⟨_, #[], _, h3, rfl, fun e he => absurd he (by simp), fun _ => rfl⟩
  show wpAny _ _ (alloc { cls := .type "dict", data := .dict #[] } >>= fun d => update x (fun o => { cls := o.cls, dict := some d, data := o.data, slots := o.slots }) >>= fun _ => dictMade (.ref C) x d) _ _ _
  refine wpAny_bind (wpAny_alloc ?_)
  refine wpAny_bind (wpAny_update (s := { s with heap := s.heap.push { cls := .type "dict", data := .dict #[] }, toks := s.toks + 1 }) h1 ?_)
  refine wpAny_pure ?_
  show wpAny _ _ (Builtin.ObjectAttr.storeInDict s.heap.objs.size (.str name s.toks) name v) _ _ _
  unfold Builtin.ObjectAttr.storeInDict Builtin.ObjectAttr.newKeyGuard
  refine wpAny_bind (wpAny_pure (wpAny_bind (wpAny_nsSet1 (Heap.Ns1.of_empty hn) fun h' n' sb => ?_)))
  obtain ⟨oD, esD, epD, hoD, hdD, hcD⟩ := n'.count (PySem.Within.cons name v PySem.Within.nil)
  refine wpAny_bind (wpAny_lookBehind hoD (by rw [hdD]; exact pastItsLine_dict (Nat.le_trans hcD (by rw [List.length_cons, List.length_nil, sizeLine_eq]; omega))) ?_)
  refine wpAny_pure (h h' _ ((sb.2 x sx).trans h2) ?_ fun b o ne hb => ?_)
  · obtain ⟨o', es, ep, e1, e2, e3, eu, e4⟩ := n'
    exact ⟨o', es, ep, e1, e2, e3, eu, fun y => by rw [e4 y]⟩
  · exact (sb.2 b (Nat.ne_of_lt (Heap.lt_size hb))).trans ((Heap.get?_update_other _ _ (Ne.symm ne)).trans (Heap.get?_push_of_some _ hb))
end
section
variable {prog : Program} {w : World} {A : Around} {E : Value → Shared → Prop} {h : Heap} {g : Array GenState} {d : Drawn} {t : Nat} {os : OsState} {K : PySem.W.Frag}
variable {nm q : Str} {C N : Addr} {bs bm : List Value} {hdct : Bool} {sn : List Str} {sub : List Value} {ab : Bool} {col : Option Bool} {dd : Option Addr} {k0 k1 k2 k3 k5 : Option Value}
theorem tcall_x {rest : List Value} {fI : Addr} {Q : Fin → Shared → Prop} (X : K.In h) (T : OwnTail h vErr bm)
    (hC : h.get? C = some (excClassObj nm q C N bs bm hdct sn sub ab col dd k0 k1 k2 k3 k5 "ValueError.__new__")) (hi : PySem.W.findIn K (.ref C) "__init__" = some (some (.ref fI))) (hf : PySem.W.typeIn K (.ref fI) = some (.type "function"))
    (hr : rest.length ≤ sizeLine)
    (hq : ∀ h' e, Heap.MadeExcOf h h' e (.ref C) rest → wpAny (model prog w) A (call (.ref fI) (.ref e :: rest)) (fun r s' => r = .none ∧ Q (.done (.ret (.ref e))) s') E ⟨h', g, d, t, os⟩) :
    wpAny (model prog w) A (Builtin.«type.__call__» ⟨.ref C :: rest, []⟩) Q E ⟨h, g, d, t, os⟩ := by
  have F := PySem.F.excBase_ValueError
  repeat (first | with_reducible refine wpAny_loadPart_at hC ?_ | with_reducible refine wpAny_madeBy_exc hC ?_ | wp_step)
  refine codeAny_call_builtin_code (Code.quiet_builtin _ F.quiet) (wpAny_check_new_subT F T hC ?_)
  refine codeAny_exc_new_subT F T hC ?_ hr
  show wpAny _ _ _ _ _ _
  have up : ∀ b o, h.get? b = some o → ((h.push { cls := .type "tuple", data := .seq rest.toArray }).push { cls := .ref C, data := .fields #[.ref h.objs.size, .none, .none, .none, .bool false, .none] }).get? b = some o := fun b o e => Heap.get?_push_of_some _ (Heap.get?_push_of_some _ e)
  have C2 := up _ _ hC
  have X2 := X.keeps up
  have e2 : ((h.push { cls := .type "tuple", data := .seq rest.toArray }).push { cls := .ref C, data := .fields #[.ref h.objs.size, .none, .none, .none, .bool false, .none] }).get? (h.objs.size + 1) = some { cls := .ref C, data := .fields #[.ref h.objs.size, .none, .none, .none, .bool false, .none] } := by heap_get
  have t2 : ((h.push { cls := .type "tuple", data := .seq rest.toArray }).push { cls := .ref C, data := .fields #[.ref h.objs.size, .none, .none, .none, .bool false, .none] }).get? h.objs.size = some { cls := .type "tuple", data := .seq rest.toArray } := Heap.get?_push_of_some _ (Heap.get?_push_at rfl rfl)
  have made : Heap.MadeExcOf h ((h.push { cls := .type "tuple", data := .seq rest.toArray }).push { cls := .ref C, data := .fields #[.ref h.objs.size, .none, .none, .none, .bool false, .none] }) (h.objs.size + 1) (.ref C) rest :=
    ⟨up, Heap.get?_none_of_le (Nat.le_succ _), h.objs.size, e2, Heap.get?_none_of_le (Nat.le_refl _), t2⟩
  have q2 := hq _ _ made
  have me : (Value.ref C :: bm).contains (.ref C) = true := by simp
  generalize (h.push { cls := .type "tuple", data := .seq rest.toArray }).push { cls := .ref C, data := .fields #[.ref h.objs.size, .none, .none, .none, .bool false, .none] } = h2 at *
  unfold isInstance
  repeat (first | with_reducible refine wpAny_loadPart_at e2 ?_ | (with_reducible refine wpAny_isSubtype_exc C2 ?_; rw [me]) | wp_step)
  show wpAny _ _ (typeLookup (.ref C) _) _ _ _
  refine (PySem.W.looks_findIn X2 hi).here (s := ⟨h2, g, d, t, os⟩) ?_
  refine wpAny_holding (wpAny_bind ((PySem.W.bind_fn X2 _ hf).here (s := ⟨h2, g, d, t, os⟩) (wpAny_bind (wpAny_mono q2 (fun r s' hr => ?_) fun _ _ z => z))))
  obtain ⟨rfl, hQ⟩ := hr
  wp_walk
  exact hQ
theorem call_x {rest : List Value} {fI : Addr} {Q : Value → Shared → Prop} (X : K.In h) (T : OwnTail h vErr bm)
    (hC : h.get? C = some (excClassObj nm q C N bs bm hdct sn sub ab col dd k0 k1 k2 k3 k5 "ValueError.__new__")) (hi : PySem.W.findIn K (.ref C) "__init__" = some (some (.ref fI))) (hf : PySem.W.typeIn K (.ref fI) = some (.type "function"))
    (hr : rest.length ≤ sizeLine)
    (hq : ∀ h' e, Heap.MadeExcOf h h' e (.ref C) rest → wpAny (model prog w) (A.under (.builtin "type.__call__" ⟨.ref C :: rest, []⟩)) (call (.ref fI) (.ref e :: rest)) (fun r s' => r = .none ∧ Q (.ref e) s') E ⟨h', g, d, t, os⟩) :
    wpAny (model prog w) A (call (.ref C) rest) Q E ⟨h, g, d, t, os⟩ := by
  have f1 := tc_lookup
  have f2 := tc_bind (.ref C)
  have hT : (⟨h, g, d, t, os⟩ : Shared).TypeIs (.ref C) "type" := ⟨_, hC, rfl⟩
  refine wpAny_call (codeAny_of_tree ?_)
  show wpAny _ _ (callAny (.ref C) _) _ _ _
  repeat (any_goals (first | assumption | with_reducible refine wpAny_loadPart_at hC ?_ | wp_step))
  refine ⟨rfl, ?_⟩
  refine codeAny_call_builtin_at (Code.quiet_builtin _ (by decide +kernel)) entry_typeCall (wpAny_check_type_call_sub hC (tcall_x X T hC hi hf hr fun h' e hm => ?_))
  exact hq h' e hm
theorem raise_x {s : Shared} {env : Env} {x : Sem Value} {Q : Flow → Shared → Prop} (hbase : bm.contains (.type "BaseException") = true) (hh : A.handled = none)
    (hx : wpAny (model prog w) A x (fun v s₁ => ∃ e dx vs, v = .ref e ∧ s₁.heap.get? C = some (excClassObj nm q C N bs bm hdct sn sub ab col dd k0 k1 k2 k3 k5 "ValueError.__new__") ∧ s₁.heap.get? e = some ⟨.ref C, dx, .fields vs, #[]⟩ ∧ vs[1]? = some .none ∧ E (.ref e) s₁) E s) :
    wpAny (model prog w) A (raiseStmt env (some x) none) Q E s := by
  have me : (Value.ref C :: bm).contains (.type "BaseException") = true := by rw [List.contains_cons, hbase, Bool.or_true]
  unfold raiseStmt
  refine wpAny_bind (wpAny_mono hx (fun v s₁ h₁ => ?_) fun _ _ x => x)
  obtain ⟨e, dx, vs, rfl, hC, he, h1, hE⟩ := h₁
  obtain ⟨hp, g, d, tk, os⟩ := s₁
  repeat (first | with_reducible refine wpAny_loadPart_at he ?_ | with_reducible refine wpAny_loadPart_at hC ?_ | (with_reducible refine wpAny_isSubtype_exc hC ?_; rw [me]) | wp_step)
  rw [h1]
  refine wpAny_pure ?_
  rw [if_neg (by decide)]
  exact wpAny_pure (wpAny_raiseNew_none hh hE)
end
end L2


set_option maxRecDepth 100000
set_option maxHeartbeats 1000000
namespace L2
open PySem PySem.Spec PyProof.Rows
noncomputable def exN (e C : Addr) (dx : Option Addr) : Heap → Prop := fun h => ∃ vs : Array Value, h.get? e = some ⟨.ref C, dx, .fields vs, #[]⟩ ∧ 1 < vs.size ∧ vs[1]? = some .none
theorem exN_ok {P : Program} {w : World} {H : Hp} {h : Heap} {e C : Addr} {dx : Option Addr} (x : exN e C dx h) : ObjOk P w H h e (.ext (exN e C dx)) :=
  ⟨x, x.elim fun vs q => ⟨_, q.1⟩, fun h1 h2 x1 k => by obtain ⟨vs, q, r⟩ := x1; exact ⟨vs, k _ q, r⟩⟩
noncomputable def dropH (H : Hp) (e : Addr) : Hp := fun b => if b = e then none else H b
theorem dropH_ne {H : Hp} {e b : Addr} (n : b ≠ e) : dropH H e b = H b := by unfold dropH; rw [if_neg n]
theorem dropH_same {H : Hp} {e : Addr} : dropH H e e = none := by unfold dropH; rw [if_pos rfl]
section
variable {X : Cx} {pins : List (Addr × Obj)} {σ : St} {H : Hp} {s : Shared} {h' : Heap} {e C : Addr}
theorem Inv.drop {φ : Heap → Prop} (I : Inv X pins σ H s) (h : H e = some (.ext φ)) : Inv X pins σ (dropH H e) s := by
  have ne : ∀ {b : Addr} {o : HO}, H b = some o → (∀ ψ, o ≠ .ext ψ) → b ≠ e := fun {b o} q n z => by
    subst z
    rw [h] at q
    injection q with q
    exact n φ q.symm
  refine I.un (t' := s.toks) (h' := s.heap) ⟨fun b o q n _ _ => q, fun b o q n _ _ => ⟨o.slots, q⟩, fun b o q n _ => ?_, fun b o q _ => ⟨o, q⟩, fun b xs q => ?_, fun b o u q => ?_, fun b ps q => ⟨#[], ?_⟩⟩ fun b o q => ?_
  · unfold dropH
    split
    · rfl
    · exact n
  · rw [dropH_ne (ne q (by simp))]; exact q
  · rw [dropH_ne (ne q (by simp))]; exact q
  · rw [dropH_ne (ne q (by simp)), q]; simp
  · have nb : b ≠ e := fun z => by rw [z, dropH_same] at q; cases q
    rw [dropH_ne nb] at q
    exact (I.hok b o q).stay (fun c u _ z => z) (fun c z => by rw [dropH_ne (ne z (by simp))]; exact z) fun c xs z => by rw [dropH_ne (ne z (by simp))]; exact z
theorem Inv.setx {vs : Array Value} {y : V} {u : Value} {f : Str} {t' : Nat} (I : Inv X pins σ H s) (hH : H e = some (.ext (exN e C none))) (he : h'.get? e = some ⟨.ref C, some s.heap.objs.size, .fields vs, #[]⟩) (v1 : 1 < vs.size) (v2 : vs[1]? = some .none)
    (hn : h'.Ns1 s.heap.objs.size (fun z => if z = f then some u else none)) (k : ∀ b o, b ≠ e → s.heap.get? b = some o → h'.get? b = some o) (ry : RelV y u) :
    Inv X pins σ (upd (upd H s.heap.objs.size (.xd [(f, y)])) e (.ext (exN e C (some s.heap.objs.size)))) { s with heap := h', toks := t' } := by
  have eN : e ≠ s.heap.objs.size := Nat.ne_of_lt (I.hok e _ hH).lt
  have hN : H s.heap.objs.size = none := I.hok.fresh (Nat.le_refl _)
  have nn : ∀ {b : Addr} {o : HO}, H b = some o → b ≠ s.heap.objs.size := fun {b o} q z => by rw [z, hN] at q; cases q
  have ne : ∀ {b : Addr} {o : HO}, H b = some o → (∀ ψ, o ≠ .ext ψ) → b ≠ e := fun {b o} q n z => by
    subst z
    rw [hH] at q
    injection q with q
    exact n _ q.symm
  have fr : ∀ b, H b = none → b ≠ e := fun b q z => by rw [z, hH] at q; cases q
  refine I.un (t' := t') ⟨fun b o q n _ _ => k b o (fr b n) q, fun b o q n _ _ => ⟨o.slots, k b o (fr b n) q⟩, fun b o q n _ => ?_, fun b o q _ => ?_, fun b xs q => ?_, fun b o u q => ?_, fun b ps q => ⟨#[], ?_⟩⟩ fun b o q => ?_
  · rw [upd_ne (fr b n), upd_ne (Nat.ne_of_lt (Heap.lt_size q))]; exact n
  · by_cases z : b = e
    · exact ⟨_, z ▸ he⟩
    · exact ⟨o, k b o z q⟩
  · rw [upd_ne (ne q (by simp)), upd_ne (nn q)]; exact q
  · rw [upd_ne (ne q (by simp)), upd_ne (nn q)]; exact q
  · rw [upd_ne (ne q (by simp)), upd_ne (nn q), q]; simp
  · by_cases z : b = e
    · subst z
      rw [upd_same] at q
      cases q
      exact exN_ok ⟨vs, he, v1, v2⟩
    · rw [upd_ne z] at q
      by_cases z2 : b = s.heap.objs.size
      · subst z2
        rw [upd_same] at q
        cases q
        refine ⟨_, hn, fun g => ?_⟩
        show RelO (List.lookup g [(f, y)]) (if g = f then some u else none)
        by_cases c : g = f
        · rw [if_pos c, c]
          simp only [List.lookup, BEq.rfl]
          exact ry
        · rw [if_neg c]
          have : (g == f) = false := beq_eq_false_iff_ne.mpr c
          simp only [List.lookup, this]
          exact True.intro
      · rw [upd_ne z2] at q
        refine (I.hok b o q).stay (fun c u hc g => ?_) (fun c g => by rw [upd_ne (ne g (by simp)), upd_ne (nn g)]; exact g) fun c xs g => by rw [upd_ne (ne g (by simp)), upd_ne (nn g)]; exact g
        rcases hc with r | r
        · exact k c u (r ▸ z) g
        · exact k c u (ne r (by simp)) g
end
structure XfAt (K : PySem.W.Frag) (C : Addr) (f : Str) : Prop where
  sa : PySem.W.findIn K (.ref C) "__setattr__" = some (some (.builtin "object.__setattr__"))
  no : PySem.W.findIn K (.ref C) f = some none
noncomputable def sFldX (C : Addr) (ta tv : TE) (f : Str) : TS := fun D σ H => tv σ H fun y H1 => ta σ H1 fun x H2 => ∃ e, x = .ref e ∧ H2 e = some (.ext (exN e C none)) ∧ ∀ dx, H2 dx = none → D.nx σ (upd (upd H2 dx (.xd [(f, y)])) e (.ext (exN e C (some dx))))
section
variable {X : Cx} {E : XK}
theorem XcAt.cd {K : PySem.W.Frag} {mg : Str → Option Value} {x : Str} {C R : Addr} {ini : Option Value} (c : XcAt K mg x C R ini) : ∃ cd : ClassData, PySem.W.clsIn K C = some cd ∧ cd.mro = .ref C :: .ref R :: vErr ∧ cd.hasDict = true := by
  obtain ⟨N, nm, q, bs, sn, sub, ab, col, dd, k0, k1, k2, k3, k5, l, _⟩ := c.cls
  unfold PySem.W.clsIn
  rw [l]
  exact ⟨_, rfl, rfl, rfl⟩
theorem ps_fldX {o value : Expr} {f x : Str} {C R : Addr} {ini : Option Value} {pos pos' : Pos} {ta tv : TE} (c : XcAt X.K X.mg x C R ini) (m : XfAt X.K C f) (ha : PE X o ta) (hv : PE X value tv) (hs : isComp value = false := by rfl) : PS X (.Assign [.Attribute o f pos'] value pos) (sFldX C ta tv f) := by
  intro pins s σ H D I h
  obtain ⟨cd, hc, hm, hd⟩ := c.cd
  refine plainObj_wpAny_Assign_Attribute (thn (hv pins s σ H _ I h) fun u s1 ⟨y, H1, I1, ry, q⟩ => thn (ha pins s1 σ H1 _ I1 q) fun ov s2 ⟨x, H2, I2, rx, e, ex, eH, q2⟩ => ?_) (swaps_of hs)
  subst ex
  obtain rfl : ov = Value.ref e := rx
  obtain ⟨⟨vs, he, v1, v2⟩, _⟩ := I2.hok e _ eH
  refine set_x I2.kIn he hc hm hd m.sa m.no fun h' t' g1 g2 g3 => ⟨σ, _, I2.setx eH g1 v1 v2 g2 g3 ry, q2 _ (I2.hok.fresh (Nat.le_refl _))⟩
end
noncomputable def tRaiseI (C : Addr) (sp : Sp) (E : XK) (ta : TA) : TS := fun _ σ H => ta σ H fun vs H1 => ∀ e, H1 e = none → sp (.ref e :: vs) (upd H1 e (.ext (exN e C none))) (fun v H2 => v = .non ∧ ∃ dx, H2 e = some (.ext (exN e C dx)) ∧ E (.ref C) dx (dropH H2 e)) E0
section
variable {X : Cx} {E : XK}
theorem Inv.newx {pins : List (Addr × Obj)} {σ : St} {H : Hp} {s : Shared} {h' : Heap} {e C : Addr} {args : List Value} (I : Inv X pins σ H s) (he : H e = none) (hm : Heap.MadeExcOf s.heap h' e (.ref C) args) : Inv X pins σ (upd H e (.ext (exN e C none))) { s with heap := h' } := by
  obtain ⟨t, oe, _, _⟩ := hm.there
  have ne : ∀ {b : Addr} {o : HO}, H b = some o → b ≠ e := fun {b o} q z => by rw [z, he] at q; cases q
  refine I.un (t' := s.toks) ⟨fun b o q n _ _ => hm.keeps b o q, fun b o q n _ _ => ⟨o.slots, hm.keeps b o q⟩, fun b o q n _ => ?_, fun b o q _ => ⟨o, hm.keeps b o q⟩, fun b xs q => ?_, fun b o u q => ?_, fun b ps q => ⟨#[], ?_⟩⟩ fun b o q => ?_
  · rw [upd_ne (fun z => by rw [z, hm.new] at q; cases q)]; exact n
  · rw [upd_ne (ne q)]; exact q
  · rw [upd_ne (ne q)]; exact q
  · rw [upd_ne (ne q), q]; simp
  · by_cases z : b = e
    · subst z
      rw [upd_same] at q
      cases q
      exact exN_ok ⟨_, oe, by show 1 < 6; decide, rfl⟩
    · rw [upd_ne z] at q
      exact (I.hok b o q).stay (fun c u _ g => hm.keeps c u g) (fun c g => by rw [upd_ne (ne g)]; exact g) fun c xs g => by rw [upd_ne (ne g)]; exact g
theorem ps_raiseI {CX : CXT} [Quiet CX] {x : Str} {C R : Addr} {ini : Option Value} {k : Nat} {ps : List Str} {sp : Sp} {a : Expr} {es : List Expr} {ta : TA} {np cpos pos : Pos} (c : XcAt X.K X.mg x C R ini) (G : MtAt X.prog X.w X.K X.mg X.base CX C "__init__" k ps sp) (kp : PySem.W.keepIn X.K (.ref C) = true)
    (hr : Room (k + 1) X.A) (hz : Rz X E) (hc : X.calm = true) (hex : X.ex = []) (hg : Gl X x) (ha : PA X (a :: es) ta) (hdb : (x == ("__debug__" : Str)) = false := by decide)
    (he : starEach (a :: es) X.env = (false, eval a X.env) :: starEach es X.env := by rfl) (hpl : (backTo cpos (starEach es X.env)).any (·.1) = false := by rfl) (hlen : ∀ us : List Value, us.length + 1 = ps.length → us.length ≤ sizeLine := by intro us h; simp at h; rw [sizeLine_eq]; omega) :
    PS X (.Raise (some (.Call (.Name x np) (a :: es) [] cpos)) none pos) (tRaiseI C sp E ta) := by
  intro pins s σ H D I h
  obtain ⟨f, fd, F, M, hb⟩ := G
  obtain ⟨N, nm, q, bs, sn, sub, ab, col, dd, k0, k1, k2, k3, k5, l, _⟩ := c.cls
  rw [arm_exec_Raise]
  refine wpAny_bind (wpAny_standAt ?_)
  refine raise_x (nm := nm) (q := q) (C := C) (N := N) (bs := bs) (bm := .ref R :: vErr) (hdct := true) (sn := sn) (sub := sub) (ab := ab) (col := col) (dd := dd) (k0 := k0) (k1 := k1) (k2 := k2) (k3 := k3) (k5 := k5) ((c.tail I.kIn).hasType (by decide +kernel)) (I.ok.hd hc) ?_
  refine wpAny_bind (wpAny_mono (wpAny_Call_Name_kw (ld_glob I hg c.mgC (PySem.W.callWith_K (h₀ := X.base) I.ok.mod.kin kp (thn (ha cpos pins s σ H _ I h) fun us s1 ⟨vs, H1, I1, r, q1⟩ => ⟨I1.kIn, ?_⟩) he hpl) hdb)) (fun v s₃ h₃ => wpAny_bind (wpAny_standAt (wpAny_pure h₃))) fun _ _ z => z)
  have T := c.tail I1.kIn
  have hC := I1.kIn _ _ l
  have hl1 : us.length ≤ sizeLine := by
    have e0 := (q1 s1.heap.objs.size (I1.hok.fresh (Nat.le_refl _)))
    have e1 := F.len _ _ _ _ e0
    have e2 := r.length
    rw [List.length_cons] at e1
    exact hlen us (by omega)
  obtain ⟨hp, g, d, t, os⟩ := s1
  refine call_x I1.kIn T hC M.at_ (beq_iff_eq.mp M.fn) hl1 fun h' e hm => ?_
  have e0 : H1 e = none := by
    cases z : H1 e with
    | none => rfl
    | some u =>
      obtain ⟨o', e'⟩ := (I1.hok e u z).there
      rw [hm.new] at e'; cases e'
  have n0 : X.s₀.heap.get? e = none := by
    cases z : X.s₀.heap.get? e with
    | none => rfl
    | some o =>
      obtain ⟨o', e'⟩ := I1.base.there e o z (by rw [hex]; simp)
      rw [hm.new] at e'; cases e'
  have I2 := I1.newx e0 hm
  have hq := q1 e e0
  have r2 : Vals (V.ref e :: vs) (Value.ref e :: us) := .cons rfl r
  have hl : (Value.ref e :: us ++ []).length = ps.length := by
    have z := F.len _ _ _ _ hq
    rw [List.append_nil, ← r2.length]
    exact z
  refine wpAny_call (codeAny_mono (F.run _ X.stack _ _ ⟨Value.ref e :: us, []⟩ (Value.ref e :: us) _ _ E0 (hr.make C us []) (I2.env0.make C us []) (by have z := hb { heap := h', gens := g, drawn := d, toks := t, os := os } (Value.ref e :: us) I2.kIn hl; rw [List.append_nil] at z; exact z) r2 hq) fun r s' hq' => ?_)
  cases r with
  | error x => exact Quiet.pass X pins σ _ _ x s' I2 hq'
  | ok fl =>
    cases fl with
    | ret u =>
      obtain ⟨v, H', I3, rv, ev, dx, eH, hE⟩ := I2.after hq'
      subst ev
      obtain ⟨⟨ws, oe, w1, w2⟩, _⟩ := I3.hok e _ eH
      exact ⟨rv, e, dx, ws, rfl, I3.kIn _ _ l, oe, w2, hz _ _ _ _ _ _ _ none ⟨I3.drop eH, ⟨_, ws, oe, rfl, rfl, rfl, w1, w2⟩, n0, dropH_same, (fun T z => by cases z), fun p hp => ⟨fun z => (by have q := (I1.pin p hp).1; rw [z, hm.new] at q; cases q), fun T z => by cases z⟩⟩ hE⟩
    | next => exact False.elim hq'
    | brk => exact False.elim hq'
    | cont => exact False.elim hq'
end
end L2


set_option maxRecDepth 100000
set_option maxHeartbeats 1000000
namespace L2
open PySem PySem.Spec PyProof.Rows
noncomputable def exF (e : Addr) (cls : Value) (dx : Option Addr) : Heap → Prop := fun h => ∃ oe vs, h.get? e = some oe ∧ oe.cls = cls ∧ oe.dict = dx ∧ oe.data = .fields vs
theorem exF_ok {P : Program} {w : World} {H : Hp} {h : Heap} {e : Addr} {cls : Value} {dx : Option Addr} (x : exF e cls dx h) : ObjOk P w H h e (.ext (exF e cls dx)) :=
  ⟨x, x.elim fun oe q => q.elim fun vs q => ⟨_, q.1⟩, fun h1 h2 x1 k => by obtain ⟨oe, vs, q, r⟩ := x1; exact ⟨oe, vs, k _ q, r⟩⟩
noncomputable def exT (T : Addr) : Heap → Prop := fun h => ∃ o, h.get? T = some o
theorem exT_ok {P : Program} {w : World} {H : Hp} {h : Heap} {e : Addr} (x : exT e h) : ObjOk P w H h e (.ext (exT e)) :=
  ⟨x, x, fun h1 h2 x1 k => by obtain ⟨o, q⟩ := x1; exact ⟨o, k _ q⟩⟩
section
variable {X : Cx} {pins : List (Addr × Obj)} {σ : St} {H : Hp} {s : Shared} {h' : Heap} {ea : Addr} {cls : Value} {dx tb : Option Addr}
theorem Inv.track {a : Addr} {φ : Heap → Prop} (I : Inv X pins σ H s) (n : H a = none) (n0 : X.s₀.heap.get? a = none) (np : ∀ p ∈ X.pn ++ pins, p.1 ≠ a) (ho : ∃ o vs, s.heap.get? a = some o ∧ o.data = .fields vs)
    (k : ObjOk X.prog X.w (upd H a (.ext φ)) s.heap a (.ext φ)) : Inv X pins σ (upd H a (.ext φ)) s := by
  obtain ⟨o, vs, ho, hd⟩ := ho
  have ne : ∀ {b : Addr} {u : HO}, H b = some u → b ≠ a := fun {b u} q z => by rw [z, n] at q; cases q
  have nl : X.env.locals ≠ a := fun z => by
    obtain ⟨m, ⟨o', es, ep, e1, e2, _⟩, _⟩ := I.loc
    rw [z, ho] at e1; cases e1
    rw [hd] at e2; cases e2
  have nc : ∀ x c, X.env.cells.lookup x = some c → c ≠ a := fun x c e z => by
    obtain ⟨v, o', e1, e2⟩ := I.cell x c e
    rw [z, ho] at e1; cases e1
    rw [hd] at e2; cases e2
  refine ⟨I.ok, I.os, I.bare, ⟨I.base.keep, I.base.slot, fun b u q m hx => ?_, I.base.there, fun b xs q => ?_, fun b o u q => ?_, fun b ps q => ?_⟩, I.loc, I.cell, ?_, fun x c e => ?_, fun p hp => ?_, fun b u q => ?_, I.len⟩
  · rw [upd_ne (fun z => by rw [z, n0] at q; cases q)]; exact I.base.free b u q m hx
  · have q' := I.base.tups b xs q
    rw [upd_ne (ne q')]; exact q'
  · have q' := I.base.frzs b o u q
    rw [upd_ne (ne q')]; exact q'
  · obtain ⟨more, q'⟩ := I.base.tbls b ps q
    exact ⟨more, by rw [upd_ne (ne q')]; exact q'⟩
  · rw [upd_ne nl]; exact I.free
  · rw [upd_ne (nc x c e)]; exact I.freeC x c e
  · obtain ⟨p1, p2, p3⟩ := I.pin p hp
    exact ⟨p1, by rw [upd_ne (np p hp)]; exact p2, p3⟩
  · by_cases z : b = a
    · subst z
      rw [upd_same] at q
      cases q
      exact k
    · rw [upd_ne z] at q
      exact (I.hok b u q).stay (fun c v _ g => g) (fun c g => by rw [upd_ne (ne g)]; exact g) fun c xs g => by rw [upd_ne (ne g)]; exact g
theorem Inv.left (I : Inv X pins σ H s) {T : Option Addr} (hT : ∀ t, T = some t → H t = some (.ext (exT t))) (he : H ea = some (.ext (exT ea))) (hk : Lft (frs X.stack) ea T s.heap h') (hx : exF ea cls dx h') :
    Inv X pins σ (upd H ea (.ext (exF ea cls dx))) { s with heap := h' } := by
  have ne : ∀ {b : Addr} {o : HO}, H b = some o → (∀ ψ, o ≠ .ext ψ) → b ≠ ea ∧ ∀ t, T = some t → b ≠ t := fun {b o} q n => ⟨fun z => by
    subst z
    rw [he] at q
    injection q with q
    exact n _ q.symm, fun t ht z => by
    subst z
    rw [hT b ht] at q
    injection q with q
    exact n _ q.symm⟩
  have fr : ∀ b, H b = none → b ≠ ea ∧ ∀ t, T = some t → b ≠ t := fun b q => ⟨(fun z => by rw [z, he] at q; cases q), fun t ht z => by rw [z, hT t ht] at q; cases q⟩
  refine I.call' (s' := { s with heap := h' }) (ch := []) rfl ⟨fun b o q n hb _ => ?_, fun b o q n hb _ => hk.slot b o hb q, fun b o q n _ => ?_, fun b o q _ => hk.there b o q, fun b xs q => ?_, fun b o u q => ?_, fun b ps q => ⟨#[], ?_⟩⟩ (fun b o q => ?_) I.bare (fun b z => absurd z (by simp))
  · exact hk.keep b o hb (fr b n).1 (fr b n).2 q
  · rw [upd_ne (fr b n).1]; exact n
  · rw [upd_ne (ne q (by simp)).1]; exact q
  · rw [upd_ne (ne q (by simp)).1]; exact q
  · rw [upd_ne (ne q (by simp)).1, q]; simp
  · by_cases z : b = ea
    · subst z
      rw [upd_same] at q
      cases q
      exact exF_ok hx
    · rw [upd_ne z] at q
      by_cases zT : T = some b
      · have q' := hT b zT
        rw [q] at q'
        injection q' with q'
        subst q'
        obtain ⟨⟨o, e1⟩, _⟩ := (show ObjOk X.prog X.w H s.heap b (.ext (exT b)) from I.hok b _ q)
        obtain ⟨o', e2⟩ := hk.there b o e1
        exact exT_ok ⟨o', e2⟩
      · have nS : ∀ {c : Addr} {u : HO}, H c = some u → c ∉ frs X.stack := fun {c u} g m => by rw [I.stkFree c m] at g; cases g
        refine (I.hok b o q).stay (fun c u hc g => ?_) (fun c g => by rw [upd_ne (ne g (by simp)).1]; exact g) fun c xs g => by rw [upd_ne (ne g (by simp)).1]; exact g
        rcases hc with r | r
        · rw [r] at g ⊢
          exact hk.keep b u (nS q) z (fun t ht e => zT (e ▸ ht)) g
        · exact hk.keep c u (nS r) (ne r (by simp)).1 (ne r (by simp)).2 g
theorem Fly.land {T' : Addr} (F : Fly X pins σ H s ea cls dx tb) (hk : Lft (frs X.stack) ea tb s.heap h') (hx : ExO h' ea cls dx (some T')) : Inv X pins σ (upd H ea (.ext (exF ea cls dx))) { s with heap := h' } := by
  obtain ⟨oe, vs, he, hc, hd, hdata, hsz, hT⟩ := F.ex
  have hx' : exF ea cls dx h' := by obtain ⟨o, ws, e1, e2, e3, e4, _⟩ := hx; exact ⟨o, ws, e1, e2, e3, e4⟩
  have I1 := F.inv.track (φ := exT ea) F.nH F.n0 (fun p hp => (F.apart p hp).1) ⟨oe, vs, he, hdata⟩ (exT_ok ⟨oe, he⟩)
  cases tb with
  | none =>
    have I2 := I1.left (T := none) (fun t z => by cases z) upd_same hk hx'
    have e : upd (upd H ea (.ext (exT ea))) ea (.ext (exF ea cls dx)) = upd H ea (.ext (exF ea cls dx)) := by
      funext b; unfold upd; split <;> rfl
    rw [e] at I2
    exact I2
  | some T =>
    obtain ⟨h1, ne, oT, ts, hT, dT, h3⟩ := hT
    obtain ⟨t0, tH⟩ := F.tbs T rfl
    have I2 := I1.track (φ := exT T) (by rw [upd_ne ne]; exact tH) t0 (fun p hp => (F.apart p hp).2 T rfl) ⟨oT, ts, hT, dT⟩ (exT_ok ⟨oT, hT⟩)
    have I3 := I2.left (T := some T) (fun t z => by cases z; exact upd_same) (by rw [upd_ne (Ne.symm ne)]; exact upd_same) hk hx'
    have I4 := I3.drop (e := T) (φ := exT T) (by rw [upd_ne ne]; exact upd_same)
    have e : dropH (upd (upd (upd H ea (.ext (exT ea))) T (.ext (exT T))) ea (.ext (exF ea cls dx))) T = upd H ea (.ext (exF ea cls dx)) := by
      funext b
      unfold dropH upd
      by_cases z : b = T
      · subst z; simp [ne, tH]
      · by_cases z2 : b = ea <;> simp [z, z2, Ne.symm ne]
    rw [e] at I4
    exact I4
theorem heap_at {h : Heap} {a : Addr} {o : Obj} (e : h.get? a = some o) : h.objs[a]? = some o := by
  unfold Heap.get? at e
  split at e
  · cases e
  · exact e
theorem heap_update_id {h : Heap} {a : Addr} {o : Obj} {f : Obj → Obj} (e : h.get? a = some o) (i : f o = o) : h.update a f = h := by
  have e' := heap_at e
  obtain ⟨objs, l⟩ := h
  have : objs.modify a f = objs := by
    apply Array.ext (by simp)
    intro j h1 h2
    rw [Array.getElem_modify]
    split
    · rename_i z
      subst z
      have q : objs[a]? = some o := e'
      rw [Array.getElem?_eq_getElem h2] at q
      rw [Option.some.inj q, i]
    · rfl
  show (⟨objs.modify a f, l⟩ : Heap) = _
  rw [this]
theorem flight_x {M : Model} {A : Around} {E : Value → Shared → Prop} {T : Addr} {Q : Unit → Shared → Prop} (hx : ExO s.heap ea cls dx (some T)) (h : Q () s) : wpAny M A (setFlight (.ref ea) none) Q E s := by
  obtain ⟨oe, vs, he, _, _, hd, hsz, h1, ne, oT, ts, hT, dT, h3⟩ := hx
  unfold setFlight
  refine wpAny_bind (wpAny_field he hd h1 ?_)
  rw [if_pos (by simp)]
  refine wpAny_setField hT dT (Array.getElem?_eq_some_iff.mp h3).1 ?_
  rw [heap_update_id hT]
  · exact h
  · obtain ⟨c, d, dt, sl⟩ := oT
    obtain rfl : dt = .fields ts := dT
    show Obj.mk c d (.fields (ts.setIfInBounds 3 Value.none)) sl = _
    congr 1
    congr 1
    obtain ⟨l3, e3⟩ := Array.getElem?_eq_some_iff.mp h3
    apply Array.ext (by simp)
    intro j h1 h2
    rw [Array.getElem_setIfInBounds]
    split
    · rename_i z; subst z; exact e3.symm
    · rfl
end
noncomputable abbrev Cx.tryC (X : Cx) (pn : List (Addr × Obj)) (σ : St) (E : XK) : Cx := { X with pn := X.pn ++ pn, xe := fun e s => ∃ ea cls dx tb H', e = .ref ea ∧ Fly X pn σ H' s ea cls dx tb ∧ E cls dx H' }
noncomputable abbrev Cx.hand (X : Cx) (e : Value) : Cx := { X with A := X.A.mark (some e), calm := false, xe := fun _ _ => False }
section
variable {X : Cx} {pins pn : List (Addr × Obj)} {σ σ0 : St} {H : Hp} {s : Shared} {E : XK}
theorem Cx.Ok.tryC (ok : X.Ok) : (X.tryC pn σ E).Ok :=
  ⟨ok.mod, ok.kind, ok.glob, ok.blt, ok.above, ok.inj, ok.has, ok.cab, ok.hd, ok.frames, ok.stk, ok.exf, ok.bs, ok.bsz, ok.noex, ok.exfs, ok.funs, ok.frf⟩
theorem Cx.Ok.untry (ok : (X.tryC pn σ E).Ok) : X.Ok :=
  ⟨ok.mod, ok.kind, ok.glob, ok.blt, ok.above, ok.inj, ok.has, ok.cab, ok.hd, ok.frames, ok.stk, ok.exf, ok.bs, ok.bsz, ok.noex, ok.exfs, ok.funs, ok.frf⟩
theorem Cx.Ok.hand {e : Value} (ok : X.Ok) : (X.hand e).Ok :=
  ⟨ok.mod, ok.kind, ok.glob, ok.blt, ok.above, ok.inj, ok.has, ok.cab, (fun z => by cases z), ok.frames, ok.stk, ok.exf, ok.bs, ok.bsz, ok.noex, ok.exfs, ok.funs, ok.frf⟩
theorem Inv.tryC (I : Inv X pn σ H s) : Inv (X.tryC pn σ0 E) [] σ H s := ⟨I.ok.tryC, I.os, I.bare, I.base, I.loc, I.cell, I.free, I.freeC, fun p hp => I.pin p (by rw [List.append_nil] at hp; exact hp), I.hok, I.len⟩
theorem Inv.untry (I : Inv (X.tryC pn σ0 E) pins σ H s) : Inv X pn σ H s := ⟨I.ok.untry, I.os, I.bare, I.base, I.loc, I.cell, I.free, I.freeC, fun p hp => I.pin p (List.mem_append_left _ hp), I.hok, I.len⟩
theorem Inv.hand {e : Value} (I : Inv X pins σ H s) : Inv (X.hand e) pins σ H s := ⟨I.ok.hand, I.os, I.bare, I.base, I.loc, I.cell, I.free, I.freeC, I.pin, I.hok, I.len⟩
theorem Inv.unhand {e : Value} (ok : X.Ok) (I : Inv (X.hand e) pins σ H s) : Inv X pins σ H s := ⟨ok, I.os, I.bare, I.base, I.loc, I.cell, I.free, I.freeC, I.pin, I.hok, I.len⟩
theorem Fly.untry {ea : Addr} {cls : Value} {dx tb : Option Addr} (F : Fly (X.tryC pn σ0 E) pins σ H s ea cls dx tb) : Fly X pn σ H s ea cls dx tb := ⟨F.inv.untry, F.ex, F.n0, F.nH, F.tbs, fun p hp => F.apart p (List.mem_append_left _ hp)⟩
theorem SP.untry {D : Ends} {f : Flow} {s' : Shared} (h : SP (X.tryC pn σ0 E) pins D f s') : SP X pn D f s' := by
  cases f with
  | next => obtain ⟨σ', H', I, q⟩ := h; exact ⟨σ', H', I.untry, q⟩
  | brk => obtain ⟨σ', H', I, q⟩ := h; exact ⟨σ', H', I.untry, q⟩
  | cont => obtain ⟨σ', H', I, q⟩ := h; exact ⟨σ', H', I.untry, q⟩
  | ret u => obtain ⟨v, σ', H', I, r, q⟩ := h; exact ⟨v, σ', H', I.untry, r, q⟩
noncomputable def PassS (CX : CXT) (X : Cx) (σ : St) (E : XK) : Prop := ∀ (pins : List (Addr × Obj)) (H : Hp) (s : Shared) (e : Value) (s' : Shared), Inv X pins σ H s → CX X.stack H s E e s' → X.xe e s'
theorem pass_try (hex : X.ex = []) : PassS (CX1 X.prog X.w) (X.tryC pn σ E) σ E := fun pins H s e s' I h => by
  obtain ⟨ea, cls, dx, T, H', rfl, F, hE⟩ := fly_of (X := X.tryC pn σ E) hex I h
  exact ⟨ea, cls, dx, some T, H', rfl, F.untry, hE⟩
end
end L2


set_option maxRecDepth 100000
set_option maxHeartbeats 1000000
namespace L2
open PySem PySem.Spec PyProof.Rows
noncomputable def tCallS (σ0 : St) (sp : Sp) (E : XK) (t : TA) : TE := fun σ H Q => σ = σ0 ∧ t σ H fun vs H1 => sp vs H1 Q E
noncomputable def tMakeS (σ0 : St) (C : Addr) (sp : Sp) (E : XK) (t : TA) : TE := fun σ H Q => σ = σ0 ∧ t σ H fun vs H1 => ∀ x dx, H1 x = none → H1 dx = none → dx ≠ x →
  sp (.ref x :: vs) (upd (upd H1 dx (.own x)) x (.ins C dx [])) (fun v H2 => v = .non ∧ Q (.ref x) H2) E
noncomputable def tMtS (σ0 : St) (C : Addr) (m : Str) (sp : Sp) (E : XK) (ta : TE) (t : TA) : TE := fun σ H Q => σ = σ0 ∧ ta σ H fun x H1 => rMt C m x H1 (t σ H1 fun vs H2 => sp (x :: vs) H2 Q E)
section
variable {X : Cx} {CX : CXT} {k n : Nat} {f C : Addr} {fd : FuncData} {ps : List Str} {sp : Sp} {E : XK} {x m : Str} {p pos apos : Pos} {e o : Expr} {es : List Expr} {ta : TE} {t : TA} {σ0 : St}
theorem run_fnS {pins : List (Addr × Obj)} {H : Hp} {s : Shared} {Q : VK} {us : List Value} {vs : List V} (F : FnOk X.prog X.w X.K X.mg X.base CX k f fd ps sp) (hr : Room k X.A) (hb : Binds X.K fd ps []) (hx : PassS CX X σ0 E)
    (I : Inv X pins σ0 H s) (r : Vals vs us) (h : sp vs H Q E) : wpAny (model X.prog X.w) X.A (call (.ref f) us) (EP X pins σ0 Q) X.xe s := by
  have hl : (us ++ []).length = ps.length := by rw [List.append_nil, ← r.length]; exact F.len _ _ _ _ h
  refine wpAny_call (codeAny_mono (F.run X.A X.stack s H ⟨us, []⟩ us vs Q E hr I.env0 (by have z := hb s us I.kIn hl; rw [List.append_nil] at z; exact z) r h) fun r s' hq => ?_)
  cases r with
  | error e => exact hx pins H s e s' I hq
  | ok fl =>
    cases fl with
    | ret u => exact I.after hq
    | next => exact False.elim hq
    | brk => exact False.elim hq
    | cont => exact False.elim hq
end
structure XmAt (K : PySem.W.Frag) (mg : Str → Option Value) (x : Str) (C : Addr) : Prop where
  mgC : mg x = some (.ref C)
  ty : PySem.W.typeIn K (.ref C) = some (.type "type")
  ex : PySem.W.mroIn K C (.type "BaseException") = some true
noncomputable def isx (K : PySem.W.Frag) (cls : Value) (C : Addr) : Option Bool := match cls with
  | .ref D => PySem.W.mroIn K D (.ref C)
  | _ => none
noncomputable def hx2 (o : Option Bool) (p q : Prop) : Prop := match o with
  | some true => p
  | some false => q
  | none => False
theorem hx2_t {p q : Prop} : hx2 (some true) p q = p := rfl
theorem hx2_f {p q : Prop} : hx2 (some false) p q = q := rfl
section
variable {prog : Program} {w : World} {A : Around} {E : Value → Shared → Prop} {s : Shared} {K : PySem.W.Frag}
theorem xmatch {mg : Str → Option Value} {x : Str} {C e : Addr} {oe : Obj} {b : Bool} {Q : Bool → Shared → Prop} (X : K.In s.heap) (he : s.heap.get? e = some oe) (m : XmAt K mg x C) (hb : isx K oe.cls C = some b) (h : Q b s) :
    wpAny (model prog w) A (excMatches (.ref e) (.ref C)) Q E s := by
  have L1 : PySem.W.Looks (model prog w) s.heap (isInstance (.ref C) (.type "tuple")) false := (PySem.W.looks_typeIn X m.ty).andThen (PySem.W.Looks.of_pure tc_notTuple)
  have L3 : PySem.W.Looks (model prog w) s.heap (isSubtype (.ref C) (.type "BaseException")) true := PySem.W.looks_mroIn X m.ex
  have L2 : PySem.W.Looks (model prog w) s.heap (isType (.ref C)) true := by
    have z := m.ex
    unfold PySem.W.mroIn at z
    obtain ⟨cd, hc, _⟩ := Option.bind_eq_some_iff.mp z
    unfold PySem.W.clsIn at hc
    split at hc
    · rename_i ho
      intro A' Q' E' s' k q
      unfold isType loadHead
      exact wpAny_bind (wpAny_loadPart (k _ _ (X _ _ ho)) (wpAny_pure q))
    · cases hc
  have L4 : PySem.W.Looks (model prog w) s.heap (typeOf (.ref e)) oe.cls := (PySem.W.Looks.ld he).andThen .now
  have L5 : PySem.W.Looks (model prog w) s.heap (isSubtype oe.cls (.ref C)) b := by
    unfold isx at hb
    split at hb
    · rename_i D hD
      rw [hD]
      exact PySem.W.looks_mroIn X hb
    · cases hb
  unfold excMatches
  refine wpAny_bind (L1.here ?_)
  dsimp only
  rw [if_neg (by decide)]
  refine wpAny_bind (wpAny_pure ?_)
  rw [List.forIn_cons]
  refine wpAny_bind (wpAny_bind (wpAny_bind ?_))
  unfold isExcClass
  refine wpAny_bind (L2.here ?_)
  rw [if_pos rfl]
  refine L3.here ?_
  simp only [Bool.not_true, Bool.false_eq_true, if_false]
  refine wpAny_pure ?_
  dsimp only
  rw [List.forIn_nil]
  refine wpAny_pure ?_
  refine wpAny_bind (L4.here ?_)
  rw [List.forIn_cons]
  refine wpAny_bind (wpAny_bind (wpAny_bind (L5.here ?_)))
  cases b with
  | true => exact wpAny_pure (wpAny_pure (wpAny_pure h))
  | false =>
    refine wpAny_pure ?_
    dsimp only
    rw [List.forIn_nil]
    exact wpAny_pure (wpAny_pure h)
end
section
variable {X : Cx} {pins : List (Addr × Obj)} {σ : St} {H : Hp} {s : Shared} {M : Model} {A : Around} {E : Value → Shared → Prop}
end
noncomputable abbrev TH := Ends → St → Value → Option Addr → Hp → Prop
noncomputable def PH (X : Cx) (hs : List ExceptHandler) (t : TH) : Prop := ∀ (pins : List (Addr × Obj)) (s : Shared) (σ : St) (H : Hp) (D : Ends) (ea : Addr) (cls : Value) (dx : Option Addr) (T : Addr),
  Inv X pins σ (upd H ea (.ext (exF ea cls dx))) s → ExO s.heap ea cls dx (some T) → H ea = none → t D σ cls dx H → wpAny (model X.prog X.w) X.A (handleBy (.ref ea) X.env hs) (SP X pins D) X.xe s
noncomputable def Ends.un (D : Ends) (i : Nat) : Ends := { nx := fun σ H => D.nx (σ.set i none) H, rt := D.rt, bk := fun σ H => D.bk (σ.set i none) H, ct := fun σ H => D.ct (σ.set i none) H }
noncomputable def tH0 : TH := fun _ _ _ _ _ => False
noncomputable def tHc (K : PySem.W.Frag) (C : Addr) (i : Nat) (th : TS) (tr : TH) : TH := fun D σ cls dx H => hx2 (isx K cls C) (∀ ea, H ea = none → th (D.un i) (σ.set i (some (.ref ea))) (upd H ea (.ext (exF ea cls dx)))) (tr D σ cls dx H)
noncomputable def tTry (tb : St → XK → TS) (th : TH) : TS := fun D σ H => tb σ (fun cls dx H' => th D σ cls dx H') D σ H
section
variable {X : Cx}
theorem ph_nil : PH X [] tH0 := fun _ _ _ _ _ _ _ _ _ _ _ _ h => h.elim
theorem ps_try {body : List Stmt} {h₀ : ExceptHandler} {hs : List ExceptHandler} {pos : Pos} {tb : St → XK → TS} {th : TH} (hb : ∀ pn σ E, PSs (X.tryC pn σ E) body (tb σ E)) (hh : PH X (h₀ :: hs) th)
    (hst : X.stack = X.env :: X.outer := by rfl) (hf : X.env.frame = some X.env.locals := by rfl) : PS X (.Try body (h₀ :: hs) [] [] pos) (tTry tb th) := by
  intro pins s σ H D I h
  refine wpAny_Try_except (wpAny_mono (hb pins σ _ [] s σ H D I.tryC h) (fun f s1 q => ?_) fun e s1 q => ?_)
  · have q' := q.untry
    cases f with
    | next => exact wpAny_execs_nil q'
    | brk => exact q'
    | cont => exact q'
    | ret u => exact q'
  · obtain ⟨ea, cls, dx, tb, H', rfl, F, hE⟩ := q
    have Ok := F.inv.ok
    have fr : X.A.frames = some (X.env :: X.outer) := by rw [← hst]; exact Ok.frames
    have fl : s1.heap.FunFrames X.base (X.env :: X.outer) := by rw [← hst]; exact F.inv.stack
    refine note_x fr fl hf F.ex fun h' hx hk => ?_
    rw [← hst] at hk
    exact hh pins _ σ H' D ea cls dx _ (F.land hk hx) hx F.nH hE
end
end L2


set_option maxRecDepth 100000
set_option maxHeartbeats 1000000
namespace L2
open PySem PySem.Spec PyProof.Rows
structure XgAt (K : PySem.W.Frag) (C : Addr) : Prop where
  ga : PySem.W.findIn K (.ref C) "__getattribute__" = some (some (.builtin "BaseException.__getattribute__"))
  gh : PySem.W.findIn K (.ref C) "__getattr__" = some none
  bx : PySem.W.mroIn K C (.type "BaseException") = some true
  ob : PySem.W.mroIn K C (.type "object") = some true
  hd : PySem.W.hasDictIn K C = true
  kc : PySem.W.findIn K (.ref C) "__class__" = some (some (.builtin "object.__class__"))
  kg : PySem.W.specialIn K (.builtin "object.__class__") "__get__" = some (some (.builtin "getset_descriptor.__get__"))
  kt : PySem.W.takesIn K (.builtin "object.__class__") = some true
section
variable {prog : Program} {w : World} {A : Around} {s : Shared} {K : PySem.W.Frag} {x C : Addr} {ox : Obj} {od : Option Obj} {name : Str}
end
theorem exF_inj {a : Addr} {c c' : Value} {d d' : Option Addr} (e : exF a c d = exF a c' d') : c = c' ∧ d = d' := by
  have h1 : exF a c d { objs := Array.replicate (a + 1) ⟨c, d, .fields #[], #[]⟩ } := ⟨⟨c, d, .fields #[], #[]⟩, #[], by unfold Heap.get?; simp, rfl, rfl, rfl⟩
  rw [e] at h1
  obtain ⟨oe, vs, e1, e2, e3, _⟩ := h1
  have e0 : Heap.get? { objs := Array.replicate (a + 1) ⟨c, d, .fields #[], #[]⟩ } a = some ⟨c, d, .fields #[], #[]⟩ := by unfold Heap.get?; simp
  rw [e0] at e1
  cases e1
  exact ⟨e2, e3⟩
theorem ex_exf {a : Addr} {c : Value} {d : Addr} {N : Addr → Prop} : (∃ dx, some (HO.ext (exF a c (some d))) = some (HO.ext (exF a c (some dx))) ∧ N dx) = N d := by
  apply propext; constructor
  · rintro ⟨dx, e, h⟩
    have e1 := Option.some.inj e
    injection e1 with e2
    obtain ⟨_, e3⟩ := exF_inj e2
    cases e3
    exact h
  · exact fun h => ⟨d, rfl, h⟩
theorem ex_exc {a : Addr} {C : Addr} {d : Option Addr} {N : Addr → Option Addr → Prop} : (∃ D dx, some (HO.ext (exF a (.ref C) d)) = some (HO.ext (exF a (.ref D) dx)) ∧ N D dx) = N C d := by
  apply propext; constructor
  · rintro ⟨D, dx, e, h⟩
    have e1 := Option.some.inj e
    injection e1 with e2
    obtain ⟨e3, e4⟩ := exF_inj e2
    cases e3; cases e4
    exact h
  · exact fun h => ⟨C, d, rfl, h⟩
theorem ex_xd {l : List (Str × V)} {N : List (Str × V) → Prop} : (∃ fs, some (HO.xd l) = some (HO.xd fs) ∧ N fs) = N l := by
  apply propext; constructor
  · rintro ⟨fs, e, h⟩; cases e; exact h
  · exact fun h => ⟨l, rfl, h⟩
noncomputable def rFldX (C : Addr) (f : Str) (x : V) (H : Hp) (Q : VK) : Prop := ∃ a, x = .ref a ∧ ∃ dx, H a = some (.ext (exF a (.ref C) (some dx))) ∧ ∃ fs, H dx = some (.xd fs) ∧ ∃ v, fs.lookup f = some v ∧ Q v H
noncomputable def tFldX (C : Addr) (f : Str) (ta : TE) : TE := fun σ H Q => ta σ H fun x H1 => rFldX C f x H1 Q
theorem rFldX_ref {C a : Addr} {f : Str} {H : Hp} {Q : VK} : rFldX C f (.ref a) H Q = ∃ dx, H a = some (.ext (exF a (.ref C) (some dx))) ∧ ∃ fs, H dx = some (.xd fs) ∧ ∃ v, fs.lookup f = some v ∧ Q v H := by
  apply propext; unfold rFldX; constructor
  · rintro ⟨b, e, h⟩; cases e; exact h
  · exact fun h => ⟨a, rfl, h⟩
noncomputable def isbO (o : Option Bool) (N : Bool → Prop) : Prop := match o with
  | some b => N b
  | none => False
theorem isbO_some {b : Bool} {N : Bool → Prop} : isbO (some b) N = N b := rfl
noncomputable def xdOk (H : Hp) : Option Addr → Prop
  | none => True
  | some d => ∃ fs, H d = some (.xd fs)
theorem xdOk_n {H : Hp} : xdOk H none = True := rfl
theorem xdOk_s {H : Hp} {d : Addr} : xdOk H (some d) = ∃ fs, H d = some (.xd fs) := rfl
theorem ex_xd1 {l : List (Str × V)} : (∃ fs, some (HO.xd l) = some (HO.xd fs)) = True := eq_true ⟨l, rfl⟩
noncomputable def rIsiX (K : PySem.W.Frag) : List V → Hp → VK → Prop := fun xs H Q => match xs with
  | [.ref p, .ref C] => ∃ D dx, H p = some (.ext (exF p (.ref D) dx)) ∧ XgAt K D ∧ xdOk H dx ∧ isbO (PySem.W.kitOne K (.ref D) (.ref C)) fun b => Q (.bl b) H
  | [.ref p, .ty n] => ∃ D dx, H p = some (.ext (exF p (.ref D) dx)) ∧ XgAt K D ∧ xdOk H dx ∧ isbO (PySem.W.kitOne K (.ref D) (.type n)) fun b => Q (.bl b) H
  | _ => False
theorem rIsiX_ref {K : PySem.W.Frag} {p C : Addr} {H : Hp} {Q : VK} : rIsiX K [.ref p, .ref C] H Q = ∃ D dx, H p = some (.ext (exF p (.ref D) dx)) ∧ XgAt K D ∧ xdOk H dx ∧ isbO (PySem.W.kitOne K (.ref D) (.ref C)) fun b => Q (.bl b) H := rfl
theorem rIsiX_ty {K : PySem.W.Frag} {p : Addr} {n : String} {H : Hp} {Q : VK} : rIsiX K [.ref p, .ty n] H Q = ∃ D dx, H p = some (.ext (exF p (.ref D) dx)) ∧ XgAt K D ∧ xdOk H dx ∧ isbO (PySem.W.kitOne K (.ref D) (.type n)) fun b => Q (.bl b) H := rfl
section
variable {X : Cx} {e : Expr} {f x : Str} {C : Addr} {ta : TE} {pos : Pos}
end
section
variable {X : Cx} {CX : CXT} {k n : Nat} {C R : Addr} {ps : List Str} {sp : Sp} {E : XK} {x m : Str} {p pos apos : Pos} {e o : Expr} {es : List Expr} {ta : TE} {t : TA} {st : Stmt} {ts : TS}
noncomputable def XcI (K : PySem.W.Frag) (mg : Str → Option Value) (x : Str) (C R : Addr) : Prop := ∃ ini, XcAt K mg x C R ini
theorem ps_raiseIQ {CX : CXT} [Quiet CX] (c : XcI X.K X.mg x C R) (G : MtAt X.prog X.w X.K X.mg X.base CX C "__init__" k ps sp) (kp : PySem.W.keepIn X.K (.ref C) = true) (hr : Room n X.A) (hk : k + 1 ≤ n) (hz : Rz X E) (hc : X.calm = true) (hex : X.ex = []) (hg : Gl X x) (ha : PA X (e :: es) t)
    (hdb : (x == ("__debug__" : Str)) = false := by decide) (h : (e :: es).any isStar = false := by rfl) (hlen : ∀ us : List Value, us.length + 1 = ps.length → us.length ≤ sizeLine := by intro us h; simp at h; rw [sizeLine_eq]; omega) :
    PS X (.Raise (some (.Call (.Name x p) (e :: es) [] apos)) none pos) (tRaiseI C sp E t) := by
  obtain ⟨ini, c⟩ := c
  rw [List.any_cons, Bool.or_eq_false_iff] at h
  exact ps_raiseI c G kp (hr.mono hk) hz hc hex hg ha hdb (starEach_of h.1) (noStars h.2) hlen
theorem ps_fldXQ {value : Expr} {f : Str} {pos' : Pos} {tv : TE} (c : XcI X.K X.mg x C R) (m : XfAt X.K C f) (ha : PE X o ta) (hv : PE X value tv) (hs : isComp value = false := by rfl) : PS X (.Assign [.Attribute o f pos'] value pos) (sFldX C ta tv f) := by
  obtain ⟨ini, c⟩ := c
  exact ps_fldX c m ha hv hs
end
theorem MethAt.fnX {P : Program} {w : World} {K : PySem.W.Frag} {mg : Str → Option Value} {base : Heap} {CX : CXT} {C : Addr} {m q : Str} {st : Stmt} {N ps : List Str} {k : Nat} {sp : Sp} (F : MethAt K C m q st) (S : FnScope N ps (defScope st))
    (hb : ∀ (kV doc pm : Value) (an : Option Addr) (cdv ct : Value) (us : List Value), us.length = ps.length → bindArgs (PySem.W.fnOf m q (defArgs st) (defBody st) (defScope st) .none kV doc pm an cdv ct) ⟨us, []⟩ = pure (ps.zip us))
    (len : ∀ vs H Q E, sp vs H Q E → vs.length = ps.length)
    (hbody : ∀ (f : Addr) (cdv : Value) (A : Around) (outer : List Env) (s : Shared) (H : Hp) (vs : List V) (Q : VK) (E : XK), Room k (A.deeper (envOfC q (defScope st) s.heap.objs.size f cdv)) → sp vs H Q E →
      ∃ t, PSs (cxOf CX P w K mg base N q (defScope st) f cdv A outer s H E) (defBody st) t ∧ t { nx := fun _ H' => Q .non H', rt := Q } (start N vs) H) : MtAt P w K mg base CX C m (k + 1) ps sp := by
  obtain ⟨f, fd, F, hm⟩ := F
  have bd := F.binds hb
  obtain ⟨oc, od, kV, doc, pm, an, cdv, ct, osl, rfl, lk, hcd⟩ := F.ex
  exact ⟨f, _, fn_of lk hcd S len fun A outer s H vs Q E hr hsp => hbody f cdv A outer s H vs Q E hr hsp, hm, bd⟩
theorem xgat_mk {K : PySem.W.Frag} {C : Addr} (ga : PySem.W.findIn K (.ref C) "__getattribute__" = some (some (.builtin "BaseException.__getattribute__"))) (gh : PySem.W.findIn K (.ref C) "__getattr__" = some none) (bx : PySem.W.mroIn K C (.type "BaseException") = some true)
    (ob : PySem.W.mroIn K C (.type "object") = some true) (hd : PySem.W.hasDictIn K C = true) (kc : PySem.W.findIn K (.ref C) "__class__" = some (some (.builtin "object.__class__"))) (kg : PySem.W.specialIn K (.builtin "object.__class__") "__get__" = some (some (.builtin "getset_descriptor.__get__")))
    (kt : PySem.W.takesIn K (.builtin "object.__class__") = some true) : XgAt K C := ⟨ga, gh, bx, ob, hd, kc, kg, kt⟩
theorem xmat_mk {K : PySem.W.Frag} {h : Heap} {mg : Str → Option Value} {x : Str} {C : Addr} (X : K.In h) (G : h.Ns mainGlobals mg) (a : PySem.W.nsIn K mainGlobals x = some (some (.ref C))) (t : PySem.W.typeIn K (.ref C) = some (.type "type")) (b : PySem.W.mroIn K C (.type "BaseException") = some true) : XmAt K mg x C :=
  ⟨PySem.W.mg_of X G a, t, b⟩
end L2


set_option maxRecDepth 100000
set_option maxHeartbeats 1000000
namespace L2
open PySem PySem.Spec PyProof.Rows
noncomputable def Dn (K : PySem.W.Frag) (H : Hp) : Nat → V → Dt → Prop
  | 0, x, d => (x = .non ∧ d = .non) ∨ (∃ i, x = .int i ∧ d = .int i) ∨ (∃ z, x = .str z ∧ d = .str z) ∨ (∃ b, x = .bl b ∧ d = .int (if b then 1 else 0))
  | n + 1, x, d => Dn K H n x d ∨ (∃ a xs ds, x = .ref a ∧ d = .l ds ∧ SqL K H a xs ∧ Paired (Dn K H n) xs ds) ∨ (∃ a xs ds, x = .ref a ∧ d = .t ds ∧ SqT K H a xs ∧ Paired (Dn K H n) xs ds)
section
variable {X : Cx} {pins : List (Addr × Obj)} {σ : St} {H : Hp} {s : Shared}
open Classical in
theorem decD_int {i j : Int} : decide (Dt.int i = Dt.int j) = (i == j) := by
  rw [Bool.eq_iff_iff, decide_eq_true_eq, beq_iff_eq]
  exact ⟨fun q => Dt.int.inj q, fun q => by rw [q]⟩
theorem bl_eq (a b : Bool) : ((if a then (1 : Int) else 0) == (if b then 1 else 0)) = (a == b) := by cases a <;> cases b <;> rfl
open Classical in
theorem dn_scal {A : Around} {x y : V} {u v : Value} {d e : Dt} (rx : RelV x u) (ry : RelV y v) (hx : Dn X.K H 0 x d) (hy : Dn X.K H 0 y e) : SeqAt.EqAt A s u v (decide (d = e)) := by
  rcases hx with ⟨rfl, rfl⟩ | ⟨i, rfl, rfl⟩ | ⟨i, rfl, rfl⟩ | ⟨i, rfl, rfl⟩ <;> rcases hy with ⟨rfl, rfl⟩ | ⟨j, rfl, rfl⟩ | ⟨j, rfl, rfl⟩ | ⟨j, rfl, rfl⟩
  · cases rx; cases ry; rw [decide_eq_true rfl]; exact SeqAt.EqAt.same _
  · cases rx; obtain ⟨t, rfl⟩ := ry; rw [decide_eq_false (fun z => nomatch z)]; exact SeqAt.EqAt.none_int _ _
  · cases rx; obtain ⟨t, rfl⟩ := ry; rw [decide_eq_false (fun z => nomatch z)]; exact SeqAt.EqAt.none_str _ _
  · cases rx; cases ry; rw [decide_eq_false (fun z => nomatch z)]; exact SeqAt.EqAt.none_bool _
  · obtain ⟨t, rfl⟩ := rx; cases ry; rw [decide_eq_false (fun z => nomatch z)]; exact SeqAt.EqAt.int_none _ _
  · obtain ⟨t, rfl⟩ := rx; obtain ⟨t', rfl⟩ := ry; rw [decD_int]; exact SeqAt.EqAt.int_int _ _ _ _
  · obtain ⟨t, rfl⟩ := rx; obtain ⟨t', rfl⟩ := ry; rw [decide_eq_false (fun z => nomatch z)]; exact SeqAt.EqAt.int_str _ _ _ _
  · obtain ⟨t, rfl⟩ := rx; cases ry; rw [decD_int]; exact SeqAt.EqAt.int_bool _ _ _
  · obtain ⟨t, rfl⟩ := rx; cases ry; rw [decide_eq_false (fun z => nomatch z)]; exact SeqAt.EqAt.str_none _ _
  · obtain ⟨t, rfl⟩ := rx; obtain ⟨t', rfl⟩ := ry; rw [decide_eq_false (fun z => nomatch z)]; exact SeqAt.EqAt.str_int _ _ _ _
  · obtain ⟨t, rfl⟩ := rx; obtain ⟨t', rfl⟩ := ry
    have e : decide (Dt.str i = Dt.str j) = (i == j) := by
      rw [Bool.eq_iff_iff, decide_eq_true_eq, beq_iff_eq]
      exact ⟨fun q => Dt.str.inj q, fun q => by rw [q]⟩
    rw [e]; exact SeqAt.EqAt.str_str _ _ _ _
  · obtain ⟨t, rfl⟩ := rx; cases ry; rw [decide_eq_false (fun z => nomatch z)]; exact SeqAt.EqAt.str_bool _ _ _
  · cases rx; cases ry; rw [decide_eq_false (fun z => nomatch z)]; exact SeqAt.EqAt.bool_none _
  · cases rx; obtain ⟨t, rfl⟩ := ry; rw [decD_int]; exact SeqAt.EqAt.bool_int _ _ _
  · cases rx; obtain ⟨t, rfl⟩ := ry; rw [decide_eq_false (fun z => nomatch z)]; exact SeqAt.EqAt.bool_str _ _ _
  · cases rx; cases ry; rw [decD_int, bl_eq]; exact SeqAt.EqAt.bool_bool _ _
theorem Dn.cases {K : PySem.W.Frag} {H : Hp} : ∀ {n : Nat} {x : V} {d : Dt}, Dn K H n x d → Dn K H 0 x d ∨ (∃ m, m < n ∧ ∃ a xs ds, x = .ref a ∧ d = .l ds ∧ SqL K H a xs ∧ Paired (Dn K H m) xs ds) ∨ (∃ m, m < n ∧ ∃ a xs ds, x = .ref a ∧ d = .t ds ∧ SqT K H a xs ∧ Paired (Dn K H m) xs ds)
  | 0, _, _, h => .inl h
  | n + 1, _, _, h => by
    rcases h with h | h | h
    · rcases Dn.cases h with q | ⟨m, hm, q⟩ | ⟨m, hm, q⟩
      · exact .inl q
      · exact .inr (.inl ⟨m, by omega, q⟩)
      · exact .inr (.inr ⟨m, by omega, q⟩)
    · exact .inr (.inl ⟨n, by omega, h⟩)
    · exact .inr (.inr ⟨n, by omega, h⟩)
theorem Dn.up {K : PySem.W.Frag} {H : Hp} {n m : Nat} {x : V} {d : Dt} (h : Dn K H n x d) (hm : n ≤ m) : Dn K H m x d := by
  induction m with
  | zero => have : n = 0 := by omega
            subst this; exact h
  | succ m ih =>
    by_cases e : n = m + 1
    · subst e; exact h
    · exact .inl (ih (by omega))
theorem dn_det (n : Nat) : ∀ {m : Nat} {x : V} {d e : Dt}, Inv X pins σ H s → Dn X.K H n x d → Dn X.K H m x e → d = e := by
  induction n using Nat.strongRecOn with
  | _ n ih =>
  intro m x d e I hx hy
  rcases hx.cases with hx | ⟨m1, hm, a, xs, ds, rfl, rfl, ha, pa⟩ | ⟨m1, hm, a, xs, ds, rfl, rfl, ha, pa⟩
  · rcases hy.cases with hy | ⟨k, hk, b, ys, es, rfl, rfl, hb, pb⟩ | ⟨k, hk, b, ys, es, rfl, rfl, hb, pb⟩
    · rcases hx with ⟨rfl, rfl⟩ | ⟨i, rfl, rfl⟩ | ⟨i, rfl, rfl⟩ | ⟨i, rfl, rfl⟩ <;> rcases hy with ⟨z, rfl⟩ | ⟨j, z, rfl⟩ | ⟨j, z, rfl⟩ | ⟨j, z, rfl⟩ <;> first | rfl | (cases z; rfl) | cases z
    · rcases hx with ⟨z, _⟩ | ⟨i, z, _⟩ | ⟨i, z, _⟩ | ⟨i, z, _⟩ <;> cases z
    · rcases hx with ⟨z, _⟩ | ⟨i, z, _⟩ | ⟨i, z, _⟩ | ⟨i, z, _⟩ <;> cases z
  · rcases hy.cases with hy | ⟨k, hk, b, ys, es, e1, rfl, hb, pb⟩ | ⟨k, hk, b, ys, es, e1, rfl, hb, pb⟩
    · rcases hy with ⟨z, _⟩ | ⟨i, z, _⟩ | ⟨i, z, _⟩ | ⟨i, z, _⟩ <;> cases z
    · cases e1
      have := I.list_inj ha hb
      subst this
      rw [paired_det pa pb fun x d e h1 h2 => ih m1 hm I h1 h2]
    · cases e1
      exact (list_not_tuple I ha hb).elim
  · rcases hy.cases with hy | ⟨k, hk, b, ys, es, e1, rfl, hb, pb⟩ | ⟨k, hk, b, ys, es, e1, rfl, hb, pb⟩
    · rcases hy with ⟨z, _⟩ | ⟨i, z, _⟩ | ⟨i, z, _⟩ | ⟨i, z, _⟩ <;> cases z
    · cases e1
      exact (list_not_tuple I hb ha).elim
    · cases e1
      have := I.tuple_inj ha hb
      subst this
      rw [paired_det pa pb fun x d e h1 h2 => ih m1 hm I h1 h2]
open Classical in
theorem dn_items {n : Nat} {A : Around} {xs ys : List V} {its its2 : List Value} {ds es : List Dt} {m k : Nat} (r1 : Vals xs its) (r2 : Vals ys its2) (pa : Paired (Dn X.K H m) xs ds) (pb : Paired (Dn X.K H k) ys es)
    (ih : ∀ x y u v d e, RelV x u → RelV y v → Dn X.K H m x d → Dn X.K H k y e → SeqAt.EqAt A s u v (decide (d = e))) :
    ∀ j (h1 : j < its.toArray.size) (h2 : j < its2.toArray.size), SeqAt.EqAt A s its.toArray[j] its2.toArray[j] (decide (ds[j]? = es[j]?)) := by
  intro j h1 h2
  have h1' : j < its.length := by simpa using h1
  have h2' : j < its2.length := by simpa using h2
  have l1 := r1.length
  have l2 := r2.length
  have x1 : xs[j]? = some xs[j] := by simp
  have y1 : ys[j]? = some ys[j] := by simp
  obtain ⟨d', hd', pd⟩ := Paired.get pa x1
  obtain ⟨e', he', pe⟩ := Paired.get pb y1
  obtain ⟨u', hu1, ru⟩ := r1.get x1
  obtain ⟨v', hv1, rv⟩ := r2.get y1
  have e1 : its.toArray[j] = u' := by
    have : its[j]? = some its[j] := by simp
    rw [hu1] at this
    simpa using (Option.some.inj this).symm
  have e2 : its2.toArray[j] = v' := by
    have : its2[j]? = some its2[j] := by simp
    rw [hv1] at this
    simpa using (Option.some.inj this).symm
  have e3 : decide (ds[j]? = es[j]?) = decide (d' = e') := by
    rw [hd', he', Bool.eq_iff_iff, decide_eq_true_eq, decide_eq_true_eq]
    exact ⟨fun q => Option.some.inj q, fun q => by rw [q]⟩
  rw [e1, e2, e3]
  exact ih _ _ _ _ _ _ ru rv pd pe
open Classical in
theorem dn_rc (n : Nat) : ∀ {A : Around} {x y : V} {u v : Value} {d e : Dt}, Inv X pins σ H s → A.units + n < cLine → RelV x u → RelV y v → Dn X.K H n x d → Dn X.K H n y e → SeqAt.EqAt A s u v (decide (d = e)) ∧ ∀ a b, x = .ref a → y = .ref b → SeqAt.RcAt A s (.ref a) (.ref b) (decide (d = e)) := by
  induction n using Nat.strongRecOn with
  | _ n ih =>
  intro A x y u v d e I hu rx ry hx hy
  have lift : ∀ {a b : Addr}, x = .ref a → y = .ref b → SeqAt.RcAt A s (.ref a) (.ref b) (decide (d = e)) → SeqAt.EqAt A s (.ref a) (.ref b) (decide (d = e)) := fun {a b} ea eb q => by
    by_cases hab : a = b
    · subst hab
      subst ea
      subst eb
      rw [decide_eq_true (dn_det n I hx hy)]
      exact SeqAt.EqAt.same _
    · exact SeqAt.EqAt.of_refs hab q
  have hu' : A.units < cLine := by omega
  rcases hx.cases with hx' | ⟨m, hm, a, xs, ds, rfl, rfl, ha, pa⟩ | ⟨m, hm, a, xs, ds, rfl, rfl, ha, pa⟩
  · rcases hy.cases with hy' | ⟨k, hk, b, ys, es, rfl, rfl, hb, pb⟩ | ⟨k, hk, b, ys, es, rfl, rfl, hb, pb⟩
    · refine ⟨dn_scal rx ry hx' hy', fun a b e1 e2 => ?_⟩
      subst e1
      rcases hx' with ⟨z, _⟩ | ⟨i, z, _⟩ | ⟨i, z, _⟩ | ⟨i, z, _⟩ <;> cases z
    · cases ry
      obtain ⟨its, _, p, _⟩ := I.list hb
      rcases hx' with ⟨rfl, rfl⟩ | ⟨i, rfl, rfl⟩ | ⟨i, rfl, rfl⟩ | ⟨i, rfl, rfl⟩
      · cases rx; rw [decide_eq_false (fun z => nomatch z)]; exact ⟨SeqAt.EqAt.none_list p.isList hu', fun a b z => nomatch z⟩
      · obtain ⟨t, rfl⟩ := rx; rw [decide_eq_false (fun z => nomatch z)]; exact ⟨SeqAt.EqAt.int_list _ _ p.isList hu', fun a b z => nomatch z⟩
      · obtain ⟨t, rfl⟩ := rx; rw [decide_eq_false (fun z => nomatch z)]; exact ⟨SeqAt.EqAt.str_list _ _ p.isList hu', fun a b z => nomatch z⟩
      · cases rx; rw [decide_eq_false (fun z => nomatch z)]; exact ⟨SeqAt.EqAt.bool_list _ p.isList hu', fun a b z => nomatch z⟩
    · cases ry
      obtain ⟨its, _, p, _⟩ := I.tuple hb
      rcases hx' with ⟨rfl, rfl⟩ | ⟨i, rfl, rfl⟩ | ⟨i, rfl, rfl⟩ | ⟨i, rfl, rfl⟩
      · cases rx; rw [decide_eq_false (fun z => nomatch z)]; exact ⟨SeqAt.EqAt.none_tuple p hu', fun a b z => nomatch z⟩
      · obtain ⟨t, rfl⟩ := rx; rw [decide_eq_false (fun z => nomatch z)]; exact ⟨SeqAt.EqAt.int_tuple _ _ p hu', fun a b z => nomatch z⟩
      · obtain ⟨t, rfl⟩ := rx; rw [decide_eq_false (fun z => nomatch z)]; exact ⟨SeqAt.EqAt.str_tuple _ _ p hu', fun a b z => nomatch z⟩
      · cases rx; rw [decide_eq_false (fun z => nomatch z)]; exact ⟨SeqAt.EqAt.bool_tuple _ p hu', fun a b z => nomatch z⟩
  · cases rx
    obtain ⟨its, r1, p, hz⟩ := I.list ha
    rcases hy.cases with hy' | ⟨k, hk, b, ys, es, rfl, rfl, hb, pb⟩ | ⟨k, hk, b, ys, es, rfl, rfl, hb, pb⟩
    · rcases hy' with ⟨rfl, rfl⟩ | ⟨i, rfl, rfl⟩ | ⟨i, rfl, rfl⟩ | ⟨i, rfl, rfl⟩
      · cases ry; rw [decide_eq_false (fun z => nomatch z)]; exact ⟨SeqAt.EqAt.list_none p.isList hu', fun a b _ z => nomatch z⟩
      · obtain ⟨t, rfl⟩ := ry; rw [decide_eq_false (fun z => nomatch z)]; exact ⟨SeqAt.EqAt.list_int _ _ p.isList hu', fun a b _ z => nomatch z⟩
      · obtain ⟨t, rfl⟩ := ry; rw [decide_eq_false (fun z => nomatch z)]; exact ⟨SeqAt.EqAt.list_str _ _ p.isList hu', fun a b _ z => nomatch z⟩
      · cases ry; rw [decide_eq_false (fun z => nomatch z)]; exact ⟨SeqAt.EqAt.list_bool _ p.isList hu', fun a b _ z => nomatch z⟩
    · cases ry
      obtain ⟨its2, r2, p2, hz2⟩ := I.list hb
      have l1 := r1.length
      have l2 := r2.length
      have l3 := Paired.length pa
      have l4 := Paired.length pb
      have eqd : decide (Dt.l ds = Dt.l es) = decide (ds = es) := by
        rw [Bool.eq_iff_iff, decide_eq_true_eq, decide_eq_true_eq]
        exact ⟨fun q => Dt.l.inj q, fun q => by rw [q]⟩
      have rc : SeqAt.RcAt A s (.ref a) (.ref b) (decide (Dt.l ds = Dt.l es)) := by
        rw [eqd]
        by_cases hl : its.length = its2.length
        · have key := SeqAt.RcAt.lists (e := fun j => decide (ds[j]? = es[j]?)) p.isList p2.isList (by simpa using hl) hu' (dn_items (n := n) r1 r2 pa pb fun x y u v d e rx ry h1 h2 =>
            (ih (max m k) (by omega) (A := A.in1) I (by show A.units + 1 + max m k < cLine; omega) rx ry (h1.up (Nat.le_max_left _ _)) (h2.up (Nat.le_max_right _ _))).1)
          rw [all_items (by rw [List.size_toArray]; omega) (by omega)] at key
          exact key
        · have hne : ds ≠ es := fun q => hl (by rw [q] at l3; omega)
          rw [decide_eq_false hne]
          exact SeqAt.RcAt.lists_lengths p.isList p2.isList (size_ne hl) hu'
      exact ⟨lift rfl rfl rc, fun a' b' e1 e2 => by cases e1; cases e2; exact rc⟩
    · cases ry
      obtain ⟨its2, r2, p2, _⟩ := I.tuple hb
      rw [decide_eq_false (fun z => nomatch z)]
      exact ⟨SeqAt.EqAt.list_tuple p.isList p2 hu', fun a' b' e1 e2 => by cases e1; cases e2; exact SeqAt.RcAt.list_tuple p.isList p2 hu'⟩
  · cases rx
    obtain ⟨its, r1, p, hz⟩ := I.tuple ha
    rcases hy.cases with hy' | ⟨k, hk, b, ys, es, rfl, rfl, hb, pb⟩ | ⟨k, hk, b, ys, es, rfl, rfl, hb, pb⟩
    · rcases hy' with ⟨rfl, rfl⟩ | ⟨i, rfl, rfl⟩ | ⟨i, rfl, rfl⟩ | ⟨i, rfl, rfl⟩
      · cases ry; rw [decide_eq_false (fun z => nomatch z)]; exact ⟨SeqAt.EqAt.tuple_none p hu', fun a b _ z => nomatch z⟩
      · obtain ⟨t, rfl⟩ := ry; rw [decide_eq_false (fun z => nomatch z)]; exact ⟨SeqAt.EqAt.tuple_int _ _ p hu', fun a b _ z => nomatch z⟩
      · obtain ⟨t, rfl⟩ := ry; rw [decide_eq_false (fun z => nomatch z)]; exact ⟨SeqAt.EqAt.tuple_str _ _ p hu', fun a b _ z => nomatch z⟩
      · cases ry; rw [decide_eq_false (fun z => nomatch z)]; exact ⟨SeqAt.EqAt.tuple_bool _ p hu', fun a b _ z => nomatch z⟩
    · cases ry
      obtain ⟨its2, r2, p2, _⟩ := I.list hb
      rw [decide_eq_false (fun z => nomatch z)]
      exact ⟨SeqAt.EqAt.tuple_list p p2.isList hu', fun a' b' e1 e2 => by cases e1; cases e2; exact SeqAt.RcAt.tuple_list p p2.isList hu'⟩
    · cases ry
      obtain ⟨its2, r2, p2, hz2⟩ := I.tuple hb
      have l1 := r1.length
      have l2 := r2.length
      have l3 := Paired.length pa
      have l4 := Paired.length pb
      have eqd : decide (Dt.t ds = Dt.t es) = decide (ds = es) := by
        rw [Bool.eq_iff_iff, decide_eq_true_eq, decide_eq_true_eq]
        exact ⟨fun q => Dt.t.inj q, fun q => by rw [q]⟩
      have rc : SeqAt.RcAt A s (.ref a) (.ref b) (decide (Dt.t ds = Dt.t es)) := by
        rw [eqd]
        have key := SeqAt.RcAt.tuples (e := fun j => decide (ds[j]? = es[j]?)) p p2 hu' (dn_items (n := n) r1 r2 pa pb fun x y u v d e rx ry h1 h2 =>
            (ih (max m k) (by omega) (A := A.in1) I (by show A.units + 1 + max m k < cLine; omega) rx ry (h1.up (Nat.le_max_left _ _)) (h2.up (Nat.le_max_right _ _))).1)
        by_cases hl : its.length = its2.length
        · rw [show min its.toArray.size its2.toArray.size = ds.length by rw [List.size_toArray, List.size_toArray]; omega, all_items rfl (by omega), show (its.toArray.size == its2.toArray.size) = true by rw [List.size_toArray, List.size_toArray, beq_iff_eq]; exact hl, Bool.and_true] at key
          exact key
        · have hne : ds ≠ es := fun q => hl (by rw [q] at l3; omega)
          rw [decide_eq_false hne]
          rw [show (its.toArray.size == its2.toArray.size) = false by rw [List.size_toArray, List.size_toArray, beq_eq_false_iff_ne]; exact hl, Bool.and_false] at key
          exact key
      exact ⟨lift rfl rfl rc, fun a' b' e1 e2 => by cases e1; cases e2; exact rc⟩
end

noncomputable def rEqX (K : PySem.W.Frag) (neg : Bool) : R2 := fun x y H Q => match x, y with
  | .ref a, .ref b => ∃ n d e, n ≤ 60 ∧ Dn K H n (.ref a) d ∧ Dn K H n (.ref b) e ∧ ((d = e ∧ Q (.bl (!neg)) H) ∨ (d ≠ e ∧ Q (.bl neg) H))
  | x, y => scal x y = true ∧ Q (.bl (if neg then !decide (x = y) else decide (x = y))) H
section
variable {X : Cx}
open Classical in
theorem op_eqX (hu : X.A.units + 64 < cLine) : OpR X (compareOp .Eq) (rEqX X.K false) := by
  intro pins s σ H x y v u Q I rx ry h
  unfold rEqX at h
  split at h
  · obtain ⟨n, d, e, hn, hd, he, q⟩ := h
    obtain ⟨_, rc⟩ := dn_rc n (A := X.A) I (by omega) rx ry hd he
    cases rx
    cases ry
    have := rc _ _ rfl rfl
    refine (this X.prog X.w _ _ ?_ : wpAny (model X.prog X.w) X.A (richCompare .Eq _ _) (EP X pins σ Q) X.xe s)
    rcases q with ⟨c, q⟩ | ⟨c, q⟩
    · rw [decide_eq_true c]; exact ⟨.bl true, H, I, rfl, q⟩
    · rw [decide_eq_false c]; exact ⟨.bl false, H, I, rfl, q⟩
  · exact op_eq pins s σ H _ _ v u Q I rx ry ⟨h.1, by simpa using h.2⟩
open Classical in
theorem op_neX (hu : X.A.units + 64 < cLine) : OpR X (compareOp .NotEq) (rEqX X.K true) := by
  intro pins s σ H x y v u Q I rx ry h
  unfold rEqX at h
  split at h
  · rename_i a b
    obtain ⟨n, d, e, hn, hd, he, q⟩ := h
    cases rx
    cases ry
    have hu' : X.A.units < cLine := by omega
    have fin : SeqAt.RcNeAt X.A s (.ref a) (.ref b) (!decide (d = e)) → wpAny (model X.prog X.w) X.A (compareOp .NotEq (.ref a) (.ref b)) (EP X pins σ Q) X.xe s := fun rc => by
      refine (rc X.prog X.w _ _ ?_ : wpAny (model X.prog X.w) X.A (richCompare .NotEq _ _) (EP X pins σ Q) X.xe s)
      rcases q with ⟨c, q⟩ | ⟨c, q⟩
      · rw [decide_eq_true c]; exact ⟨.bl false, H, I, rfl, q⟩
      · rw [decide_eq_false c]; exact ⟨.bl true, H, I, rfl, q⟩
    apply fin
    clear fin q
    rcases hd.cases with hx' | ⟨m, hm, a', xs, ds, e1, rfl, ha, pa⟩ | ⟨m, hm, a', xs, ds, e1, rfl, ha, pa⟩
    · rcases hx' with ⟨z, _⟩ | ⟨i, z, _⟩ | ⟨i, z, _⟩ | ⟨i, z, _⟩ <;> cases z
    · cases e1
      obtain ⟨its, r1, p, hz⟩ := I.list ha
      rcases he.cases with hy' | ⟨k, hk, b', ys, es, e2, rfl, hb, pb⟩ | ⟨k, hk, b', ys, es, e2, rfl, hb, pb⟩
      · rcases hy' with ⟨z, _⟩ | ⟨i, z, _⟩ | ⟨i, z, _⟩ | ⟨i, z, _⟩ <;> cases z
      · cases e2
        obtain ⟨its2, r2, p2, hz2⟩ := I.list hb
        have l1 := r1.length
        have l2 := r2.length
        have l3 := Paired.length pa
        have l4 := Paired.length pb
        have eqd : decide (Dt.l ds = Dt.l es) = decide (ds = es) := by
          rw [Bool.eq_iff_iff, decide_eq_true_eq, decide_eq_true_eq]
          exact ⟨fun q => Dt.l.inj q, fun q => by rw [q]⟩
        rw [eqd]
        by_cases hl : its.length = its2.length
        · have key := SeqAt.RcNeAt.lists (e := fun j => decide (ds[j]? = es[j]?)) p.isList p2.isList (by simpa using hl) hu' (dn_items (n := n) r1 r2 pa pb fun x y u v d e rx ry h1 h2 =>
            (dn_rc (max m k) (A := X.A.in1) I (by show X.A.units + 1 + max m k < cLine; omega) rx ry (h1.up (Nat.le_max_left _ _)) (h2.up (Nat.le_max_right _ _))).1)
          rw [all_items (by rw [List.size_toArray]; omega) (by omega)] at key
          exact key
        · have hne : ds ≠ es := fun q => hl (by rw [q] at l3; omega)
          rw [decide_eq_false hne]
          exact SeqAt.RcNeAt.lists_lengths p.isList p2.isList (size_ne hl) hu'
      · cases e2
        obtain ⟨its2, r2, p2, _⟩ := I.tuple hb
        rw [decide_eq_false (fun z => nomatch z)]
        exact SeqAt.RcNeAt.list_tuple p.isList p2 hu'
    · cases e1
      obtain ⟨its, r1, p, hz⟩ := I.tuple ha
      rcases he.cases with hy' | ⟨k, hk, b', ys, es, e2, rfl, hb, pb⟩ | ⟨k, hk, b', ys, es, e2, rfl, hb, pb⟩
      · rcases hy' with ⟨z, _⟩ | ⟨i, z, _⟩ | ⟨i, z, _⟩ | ⟨i, z, _⟩ <;> cases z
      · cases e2
        obtain ⟨its2, r2, p2, _⟩ := I.list hb
        rw [decide_eq_false (fun z => nomatch z)]
        exact SeqAt.RcNeAt.tuple_list p p2.isList hu'
      · cases e2
        obtain ⟨its2, r2, p2, hz2⟩ := I.tuple hb
        have l1 := r1.length
        have l2 := r2.length
        have l3 := Paired.length pa
        have l4 := Paired.length pb
        have eqd : decide (Dt.t ds = Dt.t es) = decide (ds = es) := by
          rw [Bool.eq_iff_iff, decide_eq_true_eq, decide_eq_true_eq]
          exact ⟨fun q => Dt.t.inj q, fun q => by rw [q]⟩
        rw [eqd]
        have key := SeqAt.RcNeAt.tuples (e := fun j => decide (ds[j]? = es[j]?)) p p2 hu' (dn_items (n := n) r1 r2 pa pb fun x y u v d e rx ry h1 h2 =>
            (dn_rc (max m k) (A := X.A.in1) I (by show X.A.units + 1 + max m k < cLine; omega) rx ry (h1.up (Nat.le_max_left _ _)) (h2.up (Nat.le_max_right _ _))).1)
        by_cases hl : its.length = its2.length
        · rw [show min its.toArray.size its2.toArray.size = ds.length by rw [List.size_toArray, List.size_toArray]; omega, all_items rfl (by omega), show (its.toArray.size == its2.toArray.size) = true by rw [List.size_toArray, List.size_toArray, beq_iff_eq]; exact hl, Bool.and_true] at key
          exact key
        · have hne : ds ≠ es := fun q => hl (by rw [q] at l3; omega)
          rw [decide_eq_false hne]
          rw [show (its.toArray.size == its2.toArray.size) = false by rw [List.size_toArray, List.size_toArray, beq_eq_false_iff_ne]; exact hl, Bool.and_false] at key
          exact key
  · exact op_ne pins s σ H _ _ v u Q I rx ry ⟨h.1, by simpa using h.2⟩
end
section
variable {K : PySem.W.Frag} {H : Hp} {Q : VK}
theorem op_eqXK {X : Cx} (K : PySem.W.Frag) (h : X.K = K) (hu : X.A.units + 64 < cLine) : OpR X (compareOp .Eq) (rEqX K false) := h ▸ op_eqX hu
theorem op_neXK {X : Cx} (K : PySem.W.Frag) (h : X.K = K) (hu : X.A.units + 64 < cLine) : OpR X (compareOp .NotEq) (rEqX K true) := h ▸ op_neX hu
theorem rEqX_int {i j : Int} : rEqX K false (.int i) (.int j) H Q = Q (.bl (decide (i = j))) H := by
  show (scal (.int i) (.int j) = true ∧ Q (.bl (if false = true then _ else decide (V.int i = V.int j))) H) = _
  rw [if_neg Bool.false_ne_true]
  exact rEq_int
theorem rNeX_int {i j : Int} : rEqX K true (.int i) (.int j) H Q = Q (.bl (!decide (i = j))) H := by
  show (scal (.int i) (.int j) = true ∧ Q (.bl (if true = true then !decide (V.int i = V.int j) else _)) H) = _
  rw [if_pos rfl]
  exact rNe_int
theorem rEqX_str {i j : Str} : rEqX K false (.str i) (.str j) H Q = Q (.bl (decide (i = j))) H := by
  show (scal (.str i) (.str j) = true ∧ Q (.bl (if false = true then _ else decide (V.str i = V.str j))) H) = _
  rw [if_neg Bool.false_ne_true]
  exact rEq_str
theorem rNeX_str {i j : Str} : rEqX K true (.str i) (.str j) H Q = Q (.bl (!decide (i = j))) H := by
  show (scal (.str i) (.str j) = true ∧ Q (.bl (if true = true then !decide (V.str i = V.str j) else _)) H) = _
  rw [if_pos rfl]
  exact rNe_str
theorem rEqX_bl {i j : Bool} : rEqX K false (.bl i) (.bl j) H Q = Q (.bl (decide (i = j))) H := by
  show (scal (.bl i) (.bl j) = true ∧ Q (.bl (if false = true then _ else decide (V.bl i = V.bl j))) H) = _
  rw [if_neg Bool.false_ne_true]
  exact rEq_bl
theorem rNeX_bl {i j : Bool} : rEqX K true (.bl i) (.bl j) H Q = Q (.bl (!decide (i = j))) H := by
  show (scal (.bl i) (.bl j) = true ∧ Q (.bl (if true = true then !decide (V.bl i = V.bl j) else _)) H) = _
  rw [if_pos rfl]
  exact rNe_bl
theorem dn_int {n : Nat} {i : Int} : Dn K H n (.int i) (.int i) := Dn.up (n := 0) (.inr (.inl ⟨i, rfl, rfl⟩)) (Nat.zero_le _)
theorem dn_tup {n : Nat} {a : Addr} {xs : List V} {ds : List Dt} (h : H a = some (.tup xs)) (p : Paired (Dn K H n) xs ds) : Dn K H (n + 1) (.ref a) (.t ds) := .inr (.inr ⟨a, xs, ds, rfl, rfl, SqT.of h, p⟩)
end
end L2


set_option maxRecDepth 100000
set_option maxHeartbeats 1000000
namespace L2
open PySem PySem.Spec PyProof.Rows
theorem pg_lst {X : Cx} {es : List Expr} {pos : Pos} {k : Nat} {t : TGs} {n : Nat} {a : Addr} {xs : List V} (hc : X.calm = true) (h : PGs X es t) (hn : es.length = n) (hst : es.any isStar = false)
    {pins : List (Addr × Obj)} {s : Shared} {σ : St} {H : Hp} {Q : St → Hp → Prop} (I : Inv X pins σ H s) (hq : SqL X.K H a xs) (hl : xs.length = n) (hw : t xs σ H Q) :
    wpAny (model X.prog X.w) X.A (assign (.Tuple es k pos) X.env (.ref a)) (fun _ s' => ∃ σ' H', Inv X pins σ' H' s' ∧ Q σ' H') X.xe s := by
  obtain ⟨its, rv, hp, hz⟩ := I.list hq
  rw [arm_assign_Tuple]
  refine wpAny_bind (wpAny_standAt ?_)
  unfold unpack
  rw [show (assignEach es X.env).length = its.toArray.size by rw [assignEach_len, hn, ← hl, List.size_toArray, rv.length], assignEach_nostar hst]
  refine wpAny_bind (wpAny_holding (PySem.W.kun_itemsOf (I.ok.hd hc) hp.isList fun h' hx => ?_))
  have I1 : Inv X pins σ H { s with heap := h' } := I.kept (t' := s.toks) fun b o e => hx b o (Nat.ne_of_lt (Heap.lt_size e)) e
  exact h pins _ σ H xs _ Q I1 (by simpa using rv) hw
noncomputable def gOx (K : PySem.W.Frag) (n : Nat) (t : TGs) (a : Addr) (σ : St) (H : Hp) (Q : St → Hp → Prop) : Option HO → Prop
  | some (.tup xs) => xs.length = n ∧ t xs σ H Q
  | some (.lst xs) => xs.length = n ∧ t xs σ H Q
  | _ => ∃ xs, SqT K H a xs ∧ xs.length = n ∧ t xs σ H Q
noncomputable def gTupX (K : PySem.W.Frag) (n : Nat) (t : TGs) : TG := fun v σ H Q => match v with
  | .ref a => gOx K n t a σ H Q (H a)
  | _ => False
theorem gTupX_ref {K : PySem.W.Frag} {n : Nat} {t : TGs} {a : Addr} {σ : St} {H : Hp} {Q : St → Hp → Prop} : gTupX K n t (.ref a) σ H Q = gOx K n t a σ H Q (H a) := rfl
theorem gOx_tup {K : PySem.W.Frag} {n : Nat} {t : TGs} {a : Addr} {σ : St} {H : Hp} {Q : St → Hp → Prop} {xs : List V} : gOx K n t a σ H Q (some (.tup xs)) = (xs.length = n ∧ t xs σ H Q) := rfl
theorem gOx_lst {K : PySem.W.Frag} {n : Nat} {t : TGs} {a : Addr} {σ : St} {H : Hp} {Q : St → Hp → Prop} {xs : List V} : gOx K n t a σ H Q (some (.lst xs)) = (xs.length = n ∧ t xs σ H Q) := rfl
theorem pg_tupX {X : Cx} {es : List Expr} {pos : Pos} (K : PySem.W.Frag) {j n : Nat} {u : TGs} (hK : X.K = K) (hc : X.calm = true) (hh : PGs X es u) (hn : es.length = n := by rfl) (h : es.any isStar = false := by rfl) : PG X (.Tuple es j pos) (gTupX K n u) := by
  intro pins s σ H v w Q I r q
  unfold gTupX at q
  split at q
  · rename_i a
    unfold gOx at q
    split at q
    · rename_i xs e; exact pg_tupQ K (j := j) hK hc hh hn h pins s σ H _ w Q I r ⟨a, xs, rfl, SqT.of e, q⟩
    · rename_i xs e
      obtain rfl : w = Value.ref a := r
      exact pg_lst hc hh hn h I (SqL.of e) q.1 q.2
    · obtain ⟨xs, h1, h2⟩ := q; exact pg_tupQ K (j := j) hK hc hh hn h pins s σ H _ w Q I r ⟨a, xs, rfl, h1, h2⟩
  · exact q.elim
end L2


set_option maxRecDepth 100000
set_option maxHeartbeats 1000000
namespace L2
open PySem PySem.Spec PyProof.Rows
structure QA (X : Cx) (es : List Expr) (t : TA) : Prop where
  h : PA X es t
section
variable {X : Cx}
theorem qa_nil : QA X [] tNil := ⟨pa_nil⟩
theorem qa_q {e : Expr} {es : List Expr} {te : TE} {t : TA} (ha : QE X e te) (hr : QA X es t) (h : isStar e = false := by rfl) : QA X (e :: es) (tCons te t) := ⟨pa_q ha.h hr.h h⟩
theorem qe_tup {es : List Expr} {t : TA} {k : Nat} {pos : Pos} (h : QA X es t) : QE X (.Tuple es k pos) (tTup t) := ⟨pe_tup h.h⟩
theorem qs_if {e : Expr} {t : TT} {a b : List Stmt} {ta tb : TS} {pos : Pos} (h : PT X e t) (ha : QSs X a ta) (hb : QSs X b tb) : QS X (.If e a b pos) (tIfS t ta tb) := ⟨ps_if h ha.h hb.h⟩
theorem qss_nil : QSs X [] tNext := ⟨pss_nil⟩
end
end L2


set_option maxRecDepth 100000
set_option maxHeartbeats 1000000
namespace L2
open PySem PySem.Spec PyProof.Rows
section
variable {X : Cx}
end
section
variable {X : Cx}
end
section
variable {X : Cx} {e : Expr} {f : Str} {ta : TE} {pos : Pos}
end
section
variable {K : PySem.W.Frag} {H : Hp} {Q : VK} {z y : Str} {p : Addr} {i : Int}
end
section
variable {X : Cx} (K : PySem.W.Frag)
end
end L2


set_option maxRecDepth 100000
set_option maxHeartbeats 1000000
namespace L2
open PySem PySem.Spec PyProof.Rows
section
variable {K : PySem.W.Frag} {g : TG} {tb : TS} {D : Ends} {σ : St} {H : Hp}
end
end L2


set_option maxRecDepth 100000
set_option maxHeartbeats 1000000
namespace L2
open PySem PySem.Spec PyProof.Rows
section
variable {K : PySem.W.Frag} {g : TG} {tb : TS} {D : Ends} {σ : St} {H : Hp} {ta : TA}
end
section
variable {X : Cx} {K : PySem.W.Frag}
end
end L2


set_option maxRecDepth 100000
set_option maxHeartbeats 1000000
namespace L2
open PySem PySem.Spec PyProof.Rows
noncomputable def NoIni (K : PySem.W.Frag) (C : Addr) : Prop := PySem.W.findIn K (.ref C) "__init__" = some (some (.builtin "object.__init__"))
theorem noini_mk {K : PySem.W.Frag} {C : Addr} (h : PySem.W.findIn K (.ref C) "__init__" = some (some (.builtin "object.__init__"))) : NoIni K C := h
noncomputable def tMkN (C : Addr) : TE := fun _ H Q => ∀ x dx, H x = none → H dx = none → dx ≠ x → Q (.ref x) (upd (upd H dx (.own x)) x (.ins C dx []))
section
variable {X : Cx} {CX : CXT} {C : Addr} {x m : Str} {p pos apos : Pos} {o : Expr} {ta : TE} {k n : Nat} {sp : Sp} {E : XK}
theorem pe_mkN (c : KlsAt X.K X.mg x C) (ni : NoIni X.K C) (hg : Gl X x) (hdb : (x == ("__debug__" : Str)) = false := by decide) : PE X (.Call (.Name x p) [] [] pos) (tMkN C) := by
  intro pins s σ H Q I h
  refine wpAny_Call_Name_kw (ld_glob I hg c.mgC ?_ hdb)
  have hq := h (s.heap.objs.size + 1) s.heap.objs.size (I.hok.fresh (Nat.le_succ _)) (I.hok.fresh (Nat.le_refl _)) (Nat.ne_of_lt (Nat.lt_succ_self _))
  have I2 := Inv.made (C := C) I
  refine PySem.W.callWith_K0 (first := []) I.kIn c.kp (wpAny_call (make_map0 I.kIn c.mks ni (fun self => PySem.W.Looks.of_pure (PySem.W.oi_bind self)) ?_))
  have Y := PySem.W.makes_of (M := model X.prog X.w) I.kIn c.mks
  have hx : ((s.heap.push PySem.W.emptyDict).push (PySem.W.instObj C s.heap.objs.size)).get? (s.heap.objs.size + 1) = some (PySem.W.instObj C s.heap.objs.size) := by heap_get
  have t1 : PySem.W.Looks (model X.prog X.w) ((s.heap.push PySem.W.emptyDict).push (PySem.W.instObj C s.heap.objs.size)) (typeOf (.ref (s.heap.objs.size + 1))) (.ref C) := (PySem.W.Looks.ld hx).andThen .now
  have t2 : PySem.W.Looks (model X.prog X.w) ((s.heap.push PySem.W.emptyDict).push (PySem.W.instObj C s.heap.objs.size)) (isInstance (.ref (s.heap.objs.size + 1)) (.type "object")) true := t1.andThen (Y.top.keeps fun b o e => Heap.get?_push_of_some _ (Heap.get?_push_of_some _ e))
  refine codeAny_call_builtin PySem.W.oi_plain PySem.W.entry_oi (@PySem.W.check_slot (model X.prog X.w) _ _ _ "object.__init__" "object" "__init__" (.ref (s.heap.objs.size + 1)) [] [] _ PySem.W.oi_kind PySem.W.oi_split t2 (PySem.W.oi_args (.ref (s.heap.objs.size + 1))) ?_)
  rw [PySem.W.oi_run]
  exact wpAny_pure (And.intro rfl ⟨.ref _, _, I2, rfl, hq⟩)
noncomputable def VmAt (P : Program) (w : World) (K : PySem.W.Frag) (mg : Str → Option Value) (base : Heap) (CX : CXT) (m : Str) (n : Nat) (sp : Sp) : Prop := ∀ x H Q E, sp [x] H Q E →
  ∃ a C dx fs k ps sp', x = .ref a ∧ H a = some (.ins C dx fs) ∧ fs.lookup m = none ∧ k ≤ n ∧ Cls K C ∧ MtAt P w K mg base CX C m k ps sp' ∧ sp' [.ref a] H Q E
noncomputable def tMtV (sp : Sp) (E : XK) (ta : TE) : TE := fun σ H Q => ta σ H fun x H1 => sp [x] H1 Q E
theorem pe_mtVP {pl : Sem Bool} (he : PE X o ta) (G : VmAt X.prog X.w X.K X.mg X.base CX m k sp) (hr : Room n X.A) (hk : k ≤ n) (hp : Passes CX X E)
    (ht : eval (.Call (.Attribute o m apos) [] [] pos) X.env = (do
      let ov ← eval o X.env
      standAt apos.atName
      let (f, first) ← holding [ov] (getMethod ov m pl)
      callWith pos f first (backTo pos (starEach [] X.env)) (backToKw pos (keywordEach [] X.env)))) :
    PE X (.Call (.Attribute o m apos) [] [] pos) (tMtV sp E ta) := by
  intro pins s σ H Q I h
  refine PySem.W.methodCall_KW (pl := pl) (thn (he pins s σ H _ I h) fun u s1 ⟨x, H1, I1, rx, q⟩ => ?_) ht
  obtain ⟨a, C, dx, fs, k', ps, sp', rfl, ea, l, hk', c, ⟨f, fd, F, hm, b⟩, q⟩ := G _ _ _ _ q
  obtain rfl : u = Value.ref a := rx
  refine getmeth_ok I1 ea c hm l ?_
  exact PySem.W.callWith_K0 (first := [.ref a]) I1.kIn hm.kp (run_fn (us := [.ref a]) (vs := [.ref a]) F (hr.mono (Nat.le_trans hk' hk)) b .nil hp I1 (.cons rfl .nil) q)
theorem pe_mtV [Quiet CX] {pl : Sem Bool} (he : PE X o ta) (G : VmAt X.prog X.w X.K X.mg X.base CX m k sp) (hr : Room n X.A) (hk : k ≤ n)
    (ht : eval (.Call (.Attribute o m apos) [] [] pos) X.env = (do
      let ov ← eval o X.env
      standAt apos.atName
      let (f, first) ← holding [ov] (getMethod ov m pl)
      callWith pos f first (backTo pos (starEach [] X.env)) (backToKw pos (keywordEach [] X.env))) := by rfl) :
    PE X (.Call (.Attribute o m apos) [] [] pos) (tMtV sp E0 ta) := pe_mtVP he G hr hk (Quiet.pass X) ht
end
structure OgAt (K : PySem.W.Frag) (D : Addr) : Prop where
  hg : PySem.W.plainGet K D "__class__" = true
  hd : PySem.W.hasDictIn K D = true
  ha : PySem.W.findIn K (.ref D) "__class__" = some (some (.builtin "object.__class__"))
  hn : PySem.W.specialIn K (.builtin "object.__class__") "__get__" = some (some (.builtin "getset_descriptor.__get__"))
  htk : PySem.W.takesIn K (.builtin "object.__class__") = some true
  hm : PySem.W.mroIn K D (.type "object") = some true
theorem ogat_mk {K : PySem.W.Frag} {D : Addr} (a : PySem.W.plainGet K D "__class__" = true) (b : PySem.W.hasDictIn K D = true) (c : PySem.W.findIn K (.ref D) "__class__" = some (some (.builtin "object.__class__")))
  (d : PySem.W.specialIn K (.builtin "object.__class__") "__get__" = some (some (.builtin "getset_descriptor.__get__"))) (e : PySem.W.takesIn K (.builtin "object.__class__") = some true) (f : PySem.W.mroIn K D (.type "object") = some true) : OgAt K D := ⟨a, b, c, d, e, f⟩
noncomputable def rIsiO (K : PySem.W.Frag) : List V → Hp → VK → Prop := fun xs H Q => match xs with
  | [.ref p, .ref C] => ∃ D dx fs, H p = some (.ins D dx fs) ∧ OgAt K D ∧ isbO (PySem.W.kitOne K (.ref D) (.ref C)) fun b => Q (.bl b) H
  | _ => False
theorem rIsiO_ref {K : PySem.W.Frag} {p C : Addr} {H : Hp} {Q : VK} : rIsiO K [.ref p, .ref C] H Q = ∃ D dx fs, H p = some (.ins D dx fs) ∧ OgAt K D ∧ isbO (PySem.W.kitOne K (.ref D) (.ref C)) fun b => Q (.bl b) H := rfl
section
variable {prog : Program} {w : World} {A : Around} {s : Shared} {K : PySem.W.Frag} {x C R dx : Addr} {cd : ClassData} {name : Str} {v : Value}
theorem set_x2 {E : Value → Shared → Prop} {vs : Array Value} {m : Str → Option Value} {ns : List Str} {Q : Unit → Shared → Prop} (X : K.In s.heap) (hx : s.heap.get? x = some ⟨.ref C, some dx, .fields vs, #[]⟩) (hn : s.heap.Ns1 dx m) (hw : PySem.Within m ns) (hl : ns.length < 1000)
    (hc : PySem.W.clsIn K C = some cd) (hm : cd.mro = .ref C :: .ref R :: vErr) (hd : cd.hasDict = true)
    (hs : PySem.W.findIn K (.ref C) "__setattr__" = some (some (.builtin "object.__setattr__"))) (ha : PySem.W.findIn K (.ref C) name = some none)
    (h : ∀ h' t', h'.Ns1 dx (fun y => if y = name then some v else m y) → (∀ b o, b ≠ dx → s.heap.get? b = some o → h'.get? b = some o) → Q () { s with heap := h', toks := t' }) :
    wpAny (model prog w) A (setAttr (.ref x) name v) Q E s := by
  obtain ⟨od, es, ep, hod, _⟩ := id hn
  have I : PySem.W.InstAt s.heap x ⟨.ref C, some dx, .fields vs, #[]⟩ C (some od) := ⟨hx, rfl, rfl, hod⟩
  have F := PySem.F.store_object
  have lc : PySem.W.Looks (model prog w) s.heap (classData C) cd := PySem.W.looks_clsIn X hc
  have sub : PySem.W.Looks (model prog w) s.heap (isInstance (.ref x) (.type "object")) true := I.type.andThen (PySem.W.looks_mroIn X (by unfold PySem.W.mroIn; rw [hc, Option.bind_some, hm]; rfl))
  have mro : PySem.W.Looks (model prog w) s.heap (mroOf (.ref C)) cd.mro := lc.andThen .now
  refine PySem.W.set_plain X I hs ?_
  refine codeAny_call_builtin F.slot.plain F.entry ?_
  refine @PySem.W.check_slot (model prog w) _ _ { s with toks := s.toks + 1 } "object.__setattr__" "object" "__setattr__" (.ref x) [.str name s.toks, v] [] _ F.kind F.split sub (F.args (.ref x) (.str name s.toks) v) ?_
  rw [PySem.W.osa_eq, refuse_eq]
  refine wpAny_bind (wpAny_bind (I.type.here (s := { s with toks := s.toks + 1 }) (wpAny_bind (mro.here (s := { s with toks := s.toks + 1 }) ?_))))
  rw [hm, refuseLoop_ref, refuseLoop_ref, PySem.F.store_ValueError.passes]
  refine wpAny_pure (wpAny_bind (I.type.here (s := { s with toks := s.toks + 1 }) (wpAny_bind ((PySem.W.looks_findIn X ha).here (s := { s with toks := s.toks + 1 }) (wpAny_bind (wpAny_pure ?_))))))
  refine wpAny_bind (wpAny_pure (wpAny_bind (wpAny_bind (wpAny_loadPart (s := { s with toks := s.toks + 1 }) hx (wpAny_bind (lc.here (s := { s with toks := s.toks + 1 }) ?_))))))
  rw [hd, if_neg (by decide)]
  refine wpAny_pure ?_
  show wpAny _ _ (Builtin.ObjectAttr.storeInDict dx (.str name s.toks) name v) _ _ _
  unfold Builtin.ObjectAttr.storeInDict Builtin.ObjectAttr.newKeyGuard
  refine wpAny_bind (wpAny_pure (wpAny_bind (wpAny_nsSet1 (s := { s with toks := s.toks + 1 }) hn fun h' n' sb => ?_)))
  obtain ⟨oD, esD, epD, hoD, hdD, hcD⟩ := n'.count (PySem.Within.cons name v hw)
  refine wpAny_bind (wpAny_lookBehind hoD (by rw [hdD]; exact pastItsLine_dict (Nat.le_trans hcD (by rw [List.length_cons, sizeLine_eq]; omega))) ?_)
  exact wpAny_pure (h h' _ n' fun b o ne hb => (sb.2 b ne).trans hb)
end
section
variable {X : Cx} {pins : List (Addr × Obj)} {σ : St} {H : Hp} {s : Shared} {h' : Heap} {dx : Addr}
theorem look_mem : ∀ {fs : List (Str × V)} {g : Str} {y : V}, fs.lookup g = some y → g ∈ fs.map (·.1)
  | [], _, _, h => by cases h
  | (k, z) :: fs, g, y, h => by
    simp only [List.lookup] at h
    split at h
    · rename_i e
      rw [beq_iff_eq.mp e]
      exact List.mem_cons_self
    · exact List.mem_cons_of_mem _ (look_mem h)
theorem look_app : ∀ {fs : List (Str × V)} {f g : Str} {y : V}, fs.lookup f = none → (fs ++ [(f, y)]).lookup g = if g = f then some y else fs.lookup g
  | [], f, g, y, _ => by
    show List.lookup g [(f, y)] = _
    by_cases c : g = f
    · rw [if_pos c, c]; simp [List.lookup]
    · have : (g == f) = false := beq_eq_false_iff_ne.mpr c
      rw [if_neg c]; simp [List.lookup, this]
  | (k, z) :: fs, f, g, y, h => by
    simp only [List.lookup] at h
    split at h
    · cases h
    · rename_i e
      have ih := look_app (g := g) (y := y) h
      show List.lookup g ((k, z) :: (fs ++ [(f, y)])) = _
      simp only [List.lookup]
      split
      · rename_i e2
        have : g ≠ f := fun q => by
          rw [← q, e2] at e
          cases e
        rw [if_neg this]
      · exact ih
theorem Inv.setx2 {fs : List (Str × V)} {y : V} {u : Value} {f : Str} {t' : Nat} {mA : Str → Option Value} (I : Inv X pins σ H s) (hH : H dx = some (.xd fs)) (hf : fs.lookup f = none) (hr : ∀ g, RelO (fs.lookup g) (mA g))
    (hn : h'.Ns1 dx (fun z => if z = f then some u else mA z)) (k : ∀ b o, b ≠ dx → s.heap.get? b = some o → h'.get? b = some o) (ry : RelV y u) :
    Inv X pins σ (upd H dx (.xd (fs ++ [(f, y)]))) { s with heap := h', toks := t' } := by
  have ne : ∀ {b : Addr} {o : HO}, H b = some o → (∀ ψ, o ≠ .xd ψ) → b ≠ dx := fun {b o} q n z => by
    subst z
    rw [hH] at q
    injection q with q
    exact n _ q.symm
  have fr : ∀ b, H b = none → b ≠ dx := fun b q z => by rw [z, hH] at q; cases q
  obtain ⟨od, _, _, hod, _⟩ := id hn
  refine I.un (t' := t') ⟨fun b o q n _ _ => k b o (fr b n) q, fun b o q n _ _ => ⟨o.slots, k b o (fr b n) q⟩, fun b o q n _ => ?_, fun b o q _ => ?_, fun b xs q => ?_, fun b o u q => ?_, fun b ps q => ⟨#[], ?_⟩⟩ fun b o q => ?_
  · rw [upd_ne (fr b n)]; exact n
  · by_cases z : b = dx
    · exact ⟨_, z ▸ hod⟩
    · exact ⟨o, k b o z q⟩
  · rw [upd_ne (ne q (by simp))]; exact q
  · rw [upd_ne (ne q (by simp))]; exact q
  · rw [upd_ne (ne q (by simp)), q]; simp
  · by_cases z : b = dx
    · subst z
      rw [upd_same] at q
      cases q
      refine ⟨_, hn, fun g => ?_⟩
      rw [look_app hf]
      by_cases c : g = f
      · rw [if_pos c, if_pos c]
        exact ry
      · rw [if_neg c, if_neg c]
        exact hr g
    · rw [upd_ne z] at q
      refine (I.hok b o q).stay (fun c u hc g => ?_) (fun c g => by rw [upd_ne (ne g (by simp))]; exact g) fun c xs g => by rw [upd_ne (ne g (by simp))]; exact g
      rcases hc with r | r
      · exact k c u (r ▸ z) g
      · exact k c u (ne r (by simp)) g
end
noncomputable def sFldX2 (C : Addr) (ta tv : TE) (f : Str) : TS := fun D σ H => tv σ H fun y H1 => ta σ H1 fun x H2 => ∃ e, x = .ref e ∧ ∃ dx fs, H2 e = some (.ext (exN e C (some dx))) ∧ H2 dx = some (.xd fs) ∧ fs.lookup f = none ∧ fs.length < 1000 ∧ D.nx σ (upd H2 dx (.xd (fs ++ [(f, y)])))
section
variable {X : Cx} {E : XK}
theorem ps_fldX2 {o value : Expr} {f x : Str} {C R : Addr} {pos pos' : Pos} {ta tv : TE} (c : XcI X.K X.mg x C R) (m : XfAt X.K C f) (ha : PE X o ta) (hv : PE X value tv) (hs : isComp value = false := by rfl) : PS X (.Assign [.Attribute o f pos'] value pos) (sFldX2 C ta tv f) := by
  intro pins s σ H D I h
  obtain ⟨ini, c⟩ := c
  obtain ⟨cd, hc, hm, hd⟩ := c.cd
  refine plainObj_wpAny_Assign_Attribute (thn (hv pins s σ H _ I h) fun u s1 ⟨y, H1, I1, ry, q⟩ => thn (ha pins s1 σ H1 _ I1 q) fun ov s2 ⟨x, H2, I2, rx, e, ex, dx, fs, eH, eD, hf, hl, q2⟩ => ?_) (swaps_of hs)
  subst ex
  obtain rfl : ov = Value.ref e := rx
  obtain ⟨⟨vs, he, v1, v2⟩, _⟩ := I2.hok e _ eH
  obtain ⟨mA, hn, hr⟩ := (show ObjOk X.prog X.w H2 s2.heap dx (.xd fs) from I2.hok dx _ eD)
  refine set_x2 I2.kIn he hn (ns := fs.map (·.1)) (fun g hg => ?_) (by rw [List.length_map]; exact hl) hc hm hd m.sa m.no fun h' t' g1 g2 => ⟨σ, _, I2.setx2 eD hf hr g1 g2 ry, q2⟩
  have := hr g
  cases e1 : fs.lookup g with
  | some y => exact look_mem e1
  | none =>
    rw [e1] at this
    exact absurd (RelO.none_of this) hg
end
section
variable {X : Cx} {a b : Expr} {ta tb : TE} {op : Operator} {r : R2} {pos : Pos}
end
end L2


set_option maxRecDepth 100000
set_option maxHeartbeats 1000000
namespace L2
open PySem PySem.Spec PyProof.Rows
noncomputable def tHn (K : PySem.W.Frag) (C : Addr) (th : TS) (tr : TH) : TH := fun D σ cls dx H => hx2 (isx K cls C) (∀ ea, H ea = none → th D σ (upd H ea (.ext (exF ea cls dx)))) (tr D σ cls dx H)
section
variable {X : Cx}
theorem ph_cons0 {K : PySem.W.Frag} {x : Str} {C : Addr} {np pos : Pos} {b₀ : Stmt} {body : List Stmt} {rest : List ExceptHandler} {th : TS} {tr : TH} (hK : X.K = K) (m : XmAt X.K X.mg x C) (hg : Gl X x)
    (hs : ∀ e, PSs (X.hand e) (b₀ :: body) th) (hr : PH X rest tr) (hdb : (x == ("__debug__" : Str)) = false := by decide) : PH X (.ExceptHandler (some (.Name x np)) none (b₀ :: body) pos :: rest) (tHn K C th tr) := by
  subst hK
  intro pins s σ H D ea cls dx T I hx hH h
  have ok := I.ok
  have Ih : Inv (X.hand (.ref ea)) pins σ (upd H ea (.ext (exF ea cls dx))) s := I.hand
  obtain ⟨oe, vs, he, hc, _⟩ := id hx
  refine wpAny_handleBy_cons (codeAny_handlers_test (ld_glob (X := X.hand (.ref ea)) Ih hg m.mgC ?_ hdb)) (by intro q; cases q)
  unfold tHn at h
  cases hb : isx X.K cls C with
  | none => rw [hb] at h; exact h.elim
  | some b =>
    rw [hb] at h
    refine xmatch I.kIn he m (by rw [hc]; exact hb) ?_
    cases b with
    | false => exact hr pins s σ H D ea cls dx T I hx hH h
    | true =>
      refine codeAny_handlers_suite (flight_x hx ?_)
      refine wpAny_mono (hs (.ref ea) pins s _ _ _ Ih (h ea hH)) (fun f s2 q => ?_) fun _ _ z => z.elim
      cases f with
      | next => obtain ⟨σ', H', I', q⟩ := q; exact ⟨σ', H', I'.unhand ok, q⟩
      | brk => obtain ⟨σ', H', I', q⟩ := q; exact ⟨σ', H', I'.unhand ok, q⟩
      | cont => obtain ⟨σ', H', I', q⟩ := q; exact ⟨σ', H', I'.unhand ok, q⟩
      | ret u => obtain ⟨v, σ', H', I', r, q⟩ := q; exact ⟨v, σ', H', I'.unhand ok, r, q⟩
end
noncomputable def tMtVS (σ0 : St) (sp : Sp) (E : XK) (ta : TE) : TE := fun σ H Q => σ = σ0 ∧ ta σ H fun x H1 => sp [x] H1 Q E
section
variable {X : Cx} {CX : CXT} {m : Str} {pos apos : Pos} {o : Expr} {ta : TE} {k n : Nat} {sp : Sp} {E : XK} {σ0 : St}
theorem pe_mtVS {pl : Sem Bool} (he : PE X o ta) (G : VmAt X.prog X.w X.K X.mg X.base CX m k sp) (hr : Room n X.A) (hk : k ≤ n) (hx : PassS CX X σ0 E)
    (ht : eval (.Call (.Attribute o m apos) [] [] pos) X.env = (do
      let ov ← eval o X.env
      standAt apos.atName
      let (f, first) ← holding [ov] (getMethod ov m pl)
      callWith pos f first (backTo pos (starEach [] X.env)) (backToKw pos (keywordEach [] X.env))) := by rfl) :
    PE X (.Call (.Attribute o m apos) [] [] pos) (tMtVS σ0 sp E ta) := by
  intro pins s σ H Q I ⟨hσ, h⟩
  subst hσ
  refine PySem.W.methodCall_KW (pl := pl) (thn (he pins s σ H _ I h) fun u s1 ⟨x, H1, I1, rx, q⟩ => ?_) ht
  obtain ⟨a, C, dx, fs, k', ps, sp', rfl, ea, l, hk', c, ⟨f, fd, F, hm, b⟩, q⟩ := G _ _ _ _ q
  obtain rfl : u = Value.ref a := rx
  refine getmeth_ok I1 ea c hm l ?_
  exact PySem.W.callWith_K0 (first := [.ref a]) I1.kIn hm.kp (run_fnS (us := [.ref a]) (vs := [.ref a]) F (hr.mono (Nat.le_trans hk' hk)) b hx I1 (.cons rfl .nil) q)
end
end L2


namespace StM
noncomputable def nameOf (a b c : Nat) : Nat := if a = 0 then 0 else if a = 1 then (if c = 0 then 1 else if c = 1 then 2 else 3) else if b = 2 then 5 else if c = 2 then 6 else 4
structure Sd (p K T t n : Nat) : Prop where
  p0 : 2 * t ≤ p
  p1 : p ≤ 2 * t + 2
  k0 : 2 * t ≤ K
  k1 : K ≤ p
  t0 : 2 * t ≤ T
  t1 : T ≤ 2 * t + 2
  sh : p = 2 * t → T = 2 * t
  nb : ¬ (K = 2 * t + 2 ∧ T = 2 * t + 2)
  nm : n = nameOf (p - 2 * t) (K - 2 * t) (T - 2 * t)
theorem Sd.start : Sd 0 0 0 0 0 := ⟨by omega, by omega, by omega, by omega, by omega, by omega, by omega, by omega, rfl⟩
noncomputable def nBegin (n : Nat) : Option Nat := if n = 0 then some 1 else none
noncomputable def nEnd (n : Nat) : Option Nat := if n = 1 ∨ n = 2 then some 4 else if n = 3 then some 6 else none
noncomputable def nBegun (n : Nat) : Nat := if n = 0 ∨ n = 1 then 2 else n
noncomputable def nEnded (n : Nat) : Nat := if n = 2 then 3 else if n = 4 then 6 else if n = 5 then 0 else n
noncomputable def nAnswered (n : Nat) : Nat := if n = 4 then 5 else if n = 6 then 0 else n
section
variable {p K T t n : Nat}
theorem Sd.lt7 (s : Sd p K T t n) : n < 7 := by
  rw [s.nm]; unfold nameOf
  repeat' split
  all_goals omega
theorem Sd.talks (s : Sd p K T t n) : min (K / 2) (T / 2) = t := by
  have := s.k0; have := s.k1; have := s.t0; have := s.t1; have := s.nb; have := s.p1
  omega
theorem Sd.name_a (s : Sd p K T t n) : (n = 0 ↔ p = 2 * t) ∧ ((n = 1 ∨ n = 2 ∨ n = 3) ↔ p = 2 * t + 1) := by
  have := s.p0; have := s.p1
  rw [s.nm]; unfold nameOf
  repeat' split
  all_goals omega
theorem Sd.begin (s : Sd p K T t n) : (n = 0 → Sd (p + 1) K T t 1) := fun h => by
  have h1 := s.name_a.1.mp h
  have h2 := s.sh h1
  have := s.k0; have := s.k1; have := s.nb
  refine ⟨by omega, by omega, by omega, by omega, by omega, by omega, by omega, by omega, ?_⟩
  unfold nameOf
  rw [if_neg (by omega), if_pos (by omega), if_pos (by omega)]
theorem Sd.fin (s : Sd p K T t n) {m : Nat} (h : nEnd n = some m) : Sd (p + 1) K T t m := by
  have hn : n = 1 ∨ n = 2 ∨ n = 3 := by
    unfold nEnd at h
    repeat' split at h
    · omega
    · omega
    · cases h
  have h1 := s.name_a.2.mp hn
  have := s.k0; have := s.k1; have := s.nb; have := s.t0; have := s.t1
  refine ⟨by omega, by omega, by omega, by omega, by omega, by omega, by omega, by omega, ?_⟩
  have e := s.nm
  unfold nameOf at e ⊢
  rw [if_neg (by omega), if_pos (by omega)] at e
  rw [if_neg (by omega), if_neg (by omega), if_neg (by omega)]
  unfold nEnd at h
  repeat' split at e
  all_goals (subst e; simp at h; subst h; first | rw [if_neg (by omega)] | rw [if_pos (by omega)])
theorem Sd.know (s : Sd p K T t n) (h : K < p) : (K % 2 = 0 → Sd p (K + 1) T t n) ∧ (K % 2 = 1 → ∃ t', Sd p (K + 1) T t' (nAnswered n)) := by
  have := s.p0; have := s.p1; have := s.k0; have := s.k1; have := s.nb; have := s.t0; have := s.t1; have := s.sh
  constructor
  · intro hk
    refine ⟨by omega, by omega, by omega, by omega, by omega, by omega, by omega, by omega, ?_⟩
    rw [s.nm]
    unfold nameOf
    repeat' split
    all_goals omega
  · intro hk
    have e := s.nm
    unfold nameOf at e
    rw [if_neg (by omega), if_neg (by omega), if_neg (by omega)] at e
    by_cases c : T = 2 * t + 2
    · refine ⟨t + 1, by omega, by omega, by omega, by omega, by omega, by omega, by omega, by omega, ?_⟩
      rw [if_pos (by omega)] at e
      subst e
      unfold nAnswered nameOf
      rw [if_neg (by omega), if_pos rfl, if_pos (by omega)]
    · refine ⟨t, by omega, by omega, by omega, by omega, by omega, by omega, by omega, by omega, ?_⟩
      rw [if_neg (by omega)] at e
      subst e
      unfold nAnswered nameOf
      rw [if_pos rfl, if_neg (by omega), if_neg (by omega), if_pos (by omega)]
theorem Sd.take (s : Sd p K T t n) (h : 2 * (T / 2) ≤ K) : (T % 2 = 0 → n = 0 → Sd (p + 1) K (T + 1) t 2) ∧ (T % 2 = 0 → n ≠ 0 → Sd p K (T + 1) t (nBegun n)) ∧ (T % 2 = 1 → ∃ t', Sd p K (T + 1) t' (nEnded n)) := by
  have := s.p0; have := s.p1; have := s.k0; have := s.k1; have := s.nb; have := s.t0; have := s.t1; have := s.sh
  have na := s.name_a
  refine ⟨fun ht hn => ?_, fun ht hn => ?_, fun ht => ?_⟩
  · have hp := na.1.mp hn
    refine ⟨by omega, by omega, by omega, by omega, by omega, by omega, by omega, by omega, ?_⟩
    unfold nameOf
    rw [if_neg (by omega), if_pos (by omega), if_neg (by omega), if_pos (by omega)]
  · have hp : p ≠ 2 * t := fun z => hn (na.1.mpr z)
    refine ⟨by omega, by omega, by omega, by omega, by omega, by omega, by omega, by omega, ?_⟩
    have e := s.nm
    unfold nameOf at e ⊢
    rw [if_neg (by omega)] at e ⊢
    unfold nBegun
    repeat' split at e
    all_goals (subst e; first | omega | ((repeat' split) <;> omega))
  · have hp : p ≠ 2 * t := fun z => by have := s.sh z; omega
    have e := s.nm
    unfold nameOf at e
    rw [if_neg (by omega)] at e
    by_cases c : K = 2 * t + 2
    · refine ⟨t + 1, by omega, by omega, by omega, by omega, by omega, by omega, by omega, by omega, ?_⟩
      rw [if_neg (by omega), if_pos (by omega)] at e
      subst e
      unfold nEnded nameOf
      rw [if_neg (by omega), if_neg (by omega), if_pos rfl, if_pos (by omega)]
    · refine ⟨t, by omega, by omega, by omega, by omega, by omega, by omega, by omega, by omega, ?_⟩
      unfold nEnded nameOf
      repeat' split at e
      all_goals (subst e; first | omega | ((repeat' split) <;> omega))
end
theorem row_name {p K T t n : Nat} {B1 B2 B3 B4 B5 : Int} (s : Sd p K T t n) (r1 : (((p + 1) / 2 : Nat) : Int) - (t : Nat) = B1) (r2 : ((p / 2 : Nat) : Int) - (t : Nat) = B2) (r3 : ((K / 2 : Nat) : Int) - (t : Nat) = B3) (r4 : (((T + 1) / 2 : Nat) : Int) - (t : Nat) = B4) (r5 : ((T / 2 : Nat) : Int) - (t : Nat) = B5) :
    (B1 = 0 ∧ B2 = 0 ∧ B3 = 0 ∧ B4 = 0 ∧ B5 = 0 ∧ n = 0) ∨ (B1 = 1 ∧ B2 = 0 ∧ B3 = 0 ∧ B4 = 0 ∧ B5 = 0 ∧ n = 1) ∨ (B1 = 1 ∧ B2 = 0 ∧ B3 = 0 ∧ B4 = 1 ∧ B5 = 0 ∧ n = 2) ∨ (B1 = 1 ∧ B2 = 0 ∧ B3 = 0 ∧ B4 = 1 ∧ B5 = 1 ∧ n = 3) ∨ (B1 = 1 ∧ B2 = 1 ∧ B3 = 0 ∧ B4 = 0 ∧ B5 = 0 ∧ n = 4) ∨ (B1 = 1 ∧ B2 = 1 ∧ B3 = 0 ∧ B4 = 1 ∧ B5 = 0 ∧ n = 4) ∨ (B1 = 1 ∧ B2 = 1 ∧ B3 = 1 ∧ B4 = 0 ∧ B5 = 0 ∧ n = 5) ∨ (B1 = 1 ∧ B2 = 1 ∧ B3 = 1 ∧ B4 = 1 ∧ B5 = 0 ∧ n = 5) ∨ (B1 = 1 ∧ B2 = 1 ∧ B3 = 0 ∧ B4 = 1 ∧ B5 = 1 ∧ n = 6) := by
  obtain ⟨p0, p1, k0, k1, t0, t1, sh, nb, nm⟩ := s
  obtain ⟨a, rfl⟩ : ∃ a, p = 2 * t + a := ⟨p - 2 * t, by omega⟩
  obtain ⟨b, rfl⟩ : ∃ b, K = 2 * t + b := ⟨K - 2 * t, by omega⟩
  obtain ⟨c, rfl⟩ : ∃ c, T = 2 * t + c := ⟨T - 2 * t, by omega⟩
  rw [show 2 * t + a - 2 * t = a by omega, show 2 * t + b - 2 * t = b by omega, show 2 * t + c - 2 * t = c by omega] at nm
  rcases (show a = 0 ∨ a = 1 ∨ a = 2 by omega) with rfl | rfl | rfl
  · have : n = 0 := nm
    have := sh (by omega)
    have : n = 0 := nm
    exact .inl ⟨by omega, by omega, by omega, by omega, by omega, this⟩
  · rcases (show c = 0 ∨ c = 1 ∨ c = 2 by omega) with rfl | rfl | rfl
    · have : n = 1 := nm
      exact .inr (.inl ⟨by omega, by omega, by omega, by omega, by omega, this⟩)
    · have : n = 2 := nm
      exact .inr (.inr (.inl ⟨by omega, by omega, by omega, by omega, by omega, this⟩))
    · have : n = 3 := nm
      exact .inr (.inr (.inr (.inl ⟨by omega, by omega, by omega, by omega, by omega, this⟩)))
  · rcases (show b = 2 ∨ (b ≠ 2 ∧ c = 2) ∨ (b ≠ 2 ∧ c ≠ 2) by omega) with rfl | ⟨h1, rfl⟩ | ⟨h1, h2⟩
    · have : n = 5 := nm
      rcases (show c = 0 ∨ c = 1 by omega) with rfl | rfl
      · exact .inr (.inr (.inr (.inr (.inr (.inr (.inl ⟨by omega, by omega, by omega, by omega, by omega, this⟩))))))
      · exact .inr (.inr (.inr (.inr (.inr (.inr (.inr (.inl ⟨by omega, by omega, by omega, by omega, by omega, this⟩)))))))
    · have : n = 6 := by rw [nm]; unfold nameOf; rw [if_neg (by omega), if_neg (by omega), if_neg h1, if_pos rfl]
      exact .inr (.inr (.inr (.inr (.inr (.inr (.inr (.inr (⟨by omega, by omega, by omega, by omega, by omega, this⟩))))))))
    · have : n = 4 := by rw [nm]; unfold nameOf; rw [if_neg (by omega), if_neg (by omega), if_neg h1, if_neg h2]
      rcases (show c = 0 ∨ c = 1 by omega) with rfl | rfl
      · exact .inr (.inr (.inr (.inr (.inl ⟨by omega, by omega, by omega, by omega, by omega, this⟩))))
      · exact .inr (.inr (.inr (.inr (.inr (.inl ⟨by omega, by omega, by omega, by omega, by omega, this⟩)))))
noncomputable def up {α : Type} (f : Nat → α) (i : Nat) (v : α) : Nat → α := fun k => if k = i then v else f k
theorem up_same {α : Type} {f : Nat → α} {i : Nat} {v : α} : up f i v i = v := if_pos rfl
theorem up_ne {α : Type} {f : Nat → α} {i k : Nat} {v : α} (h : k ≠ i) : up f i v k = f k := if_neg h
structure Jn (p K T n : Nat → Nat) (h : Nat → Nat → Nat) : Prop where
  sd : ∀ i < 2, ∃ t, Sd (p i) (K i) (T i) t (n i)
  kt : ∀ i < 2, K i ≤ T (1 - i)
  tp : ∀ i < 2, T i ≤ p (1 - i)
  h0 : ∀ i < 2, ∀ j < p i, 2 * (j / 2) ≤ h i j
  h1 : ∀ i < 2, ∀ j < p i, h i j ≤ T i
theorem Jn.start : Jn (fun _ => 0) (fun _ => 0) (fun _ => 0) (fun _ => 0) (fun _ _ => 0) :=
  ⟨fun _ _ => ⟨0, Sd.start⟩, fun _ _ => Nat.le_refl _, fun _ _ => Nat.le_refl _, fun _ _ _ hj => absurd hj (by omega), fun _ _ _ hj => absurd hj (by omega)⟩
section
variable {p K T n : Nat → Nat} {h : Nat → Nat → Nat} {i : Nat}
theorem Jn.put (J : Jn p K T n h) (hi : i < 2) {T' m : Nat} (hT : T' = T i ∨ (T' = T i + 1 ∧ T i < p (1 - i))) {t : Nat} (s : Sd (p i + 1) (K i) T' t m) (hh : 2 * (p i / 2) ≤ T') :
    Jn (up p i (p i + 1)) K (up T i T') (up n i m) (up h i (up (h i) (p i) T')) := by
  have ne : ∀ {k : Nat}, k < 2 → k ≠ i → k = 1 - i := fun hk hn => by omega
  have hTi : T i ≤ T' := by omega
  refine ⟨fun k hk => ?_, fun k hk => ?_, fun k hk => ?_, fun k hk j hj => ?_, fun k hk j hj => ?_⟩
  · by_cases c : k = i
    · subst c; rw [up_same, up_same, up_same]; exact ⟨t, s⟩
    · rw [up_ne c, up_ne c, up_ne c]; exact J.sd k hk
  · have := J.kt k hk
    by_cases c : 1 - k = i
    · rw [c, up_same]; rw [c] at this; omega
    · rw [up_ne c]; exact this
  · have h1 := J.tp k hk
    by_cases c : k = i
    · subst c; rw [up_same, up_ne (by omega)]; omega
    · rw [up_ne c]
      by_cases c2 : 1 - k = i
      · rw [c2, up_same]; rw [c2] at h1; omega
      · rw [up_ne c2]; exact h1
  · by_cases c : k = i
    · subst c; rw [up_same] at hj; rw [up_same]
      by_cases c2 : j = p k
      · rw [c2, up_same]; exact hh
      · rw [up_ne c2]; exact J.h0 k hk j (by omega)
    · rw [up_ne c] at hj; rw [up_ne c]; exact J.h0 k hk j hj
  · by_cases c : k = i
    · subst c; rw [up_same] at hj; rw [up_same, up_same]
      by_cases c2 : j = p k
      · rw [c2, up_same]; exact Nat.le_refl _
      · rw [up_ne c2]; have := J.h1 k hk j (by omega); omega
    · rw [up_ne c] at hj; rw [up_ne c, up_ne c]; exact J.h1 k hk j hj
theorem up_id {α : Type} {f : Nat → α} : up f i (f i) = f := by
  funext k
  by_cases c : k = i
  · rw [c, up_same]
  · rw [up_ne c]
theorem Jn.begin (J : Jn p K T n h) (hi : i < 2) (h0 : n i = 0) : Jn (up p i (p i + 1)) K T (up n i 1) (up h i (up (h i) (p i) (T i))) := by
  obtain ⟨t, s⟩ := J.sd i hi
  have hp := s.name_a.1.mp h0
  have := s.t0
  have z := J.put hi (T' := T i) (.inl rfl) (s.begin h0) (by omega)
  rwa [up_id] at z
theorem Jn.fin (J : Jn p K T n h) (hi : i < 2) {m : Nat} (h0 : nEnd (n i) = some m) : Jn (up p i (p i + 1)) K T (up n i m) (up h i (up (h i) (p i) (T i))) := by
  obtain ⟨t, s⟩ := J.sd i hi
  have s' := s.fin h0
  have := s.t0
  have := s'.p1
  have z := J.put hi (T' := T i) (.inl rfl) s' (by omega)
  rwa [up_id] at z
theorem Jn.know (J : Jn p K T n h) (hi : i < 2) (hk : K i < T (1 - i)) : Jn p (up K i (K i + 1)) T (up n i (if K i % 2 = 1 then nAnswered (n i) else n i)) h := by
  obtain ⟨t, s⟩ := J.sd i hi
  have tp := J.tp (1 - i) (by omega)
  rw [show 1 - (1 - i) = i by omega] at tp
  obtain ⟨k0, k1⟩ := s.know (by omega)
  refine ⟨fun k hk' => ?_, fun k hk' => ?_, J.tp, J.h0, J.h1⟩
  · by_cases c : k = i
    · subst c; rw [up_same, up_same]
      split
      · exact k1 ‹_›
      · exact ⟨t, k0 (by omega)⟩
    · rw [up_ne c, up_ne c]; exact J.sd k hk'
  · by_cases c : k = i
    · subst c; rw [up_same]; omega
    · rw [up_ne c]; exact J.kt k hk'
theorem Jn.took (J : Jn p K T n h) (hi : i < 2) (ht : T i < p (1 - i)) {m t : Nat} (s : Sd (p i) (K i) (T i + 1) t m) : Jn p K (up T i (T i + 1)) (up n i m) h := by
  refine ⟨fun k hk => ?_, fun k hk => ?_, fun k hk => ?_, J.h0, fun k hk j hj => ?_⟩
  · by_cases c : k = i
    · subst c; rw [up_same, up_same]; exact ⟨t, s⟩
    · rw [up_ne c, up_ne c]; exact J.sd k hk
  · have := J.kt k hk
    by_cases c : 1 - k = i
    · rw [c, up_same]; rw [c] at this; omega
    · rw [up_ne c]; exact this
  · by_cases c : k = i
    · subst c; rw [up_same]; omega
    · rw [up_ne c]; exact J.tp k hk
  · have := J.h1 k hk j hj
    by_cases c : k = i
    · subst c; rw [up_same]; omega
    · rw [up_ne c]; exact this
theorem Jn.take0 (J : Jn p K T n h) (hi : i < 2) (ht : T i < p (1 - i)) (hK : 2 * (T i / 2) ≤ K i) (he : T i % 2 = 0) (hn : n i = 0) : Jn (up p i (p i + 1)) K (up T i (T i + 1)) (up n i 2) (up h i (up (h i) (p i) (T i + 1))) := by
  obtain ⟨t, s⟩ := J.sd i hi
  have hp := s.name_a.1.mp hn
  have := s.t0
  exact J.put hi (.inr ⟨rfl, ht⟩) ((s.take hK).1 he hn) (by omega)
theorem Jn.take1 (J : Jn p K T n h) (hi : i < 2) (ht : T i < p (1 - i)) (hK : 2 * (T i / 2) ≤ K i) (he : T i % 2 = 0) (hn : n i ≠ 0) : Jn p K (up T i (T i + 1)) (up n i (nBegun (n i))) h := by
  obtain ⟨t, s⟩ := J.sd i hi
  exact J.took hi ht ((s.take hK).2.1 he hn)
theorem Jn.take2 (J : Jn p K T n h) (hi : i < 2) (ht : T i < p (1 - i)) (hK : 2 * (T i / 2) ≤ K i) (he : T i % 2 = 1) : Jn p K (up T i (T i + 1)) (up n i (nEnded (n i))) h := by
  obtain ⟨t, s⟩ := J.sd i hi
  obtain ⟨t', s'⟩ := (s.take hK).2.2 he
  exact J.took hi ht s'
end
noncomputable def Rm (M : Nat) (p T : Nat → Nat) : Nat := 8 * M - (T 0 + T 1 + p 0 + p 1)
structure Cm (M : Nat) (p : Nat → Nat) : Prop where
  le : ∀ i < 2, p i ≤ 2 * M
  ge : M = 0 ∨ 2 * M ≤ p 0 + 1 ∨ 2 * M ≤ p 1 + 1
theorem Cm.start {p K T n : Nat → Nat} {h : Nat → Nat → Nat} (J : Jn p K T n h) : ∃ M, Cm M p ∧ Rm M p T + 1 ≤ 2 * p 0 + 2 * p 1 + 8 := by
  obtain ⟨t0, s0⟩ := J.sd 0 (by omega)
  obtain ⟨t1, s1⟩ := J.sd 1 (by omega)
  have a0 := J.tp 0 (by omega)
  have a1 := J.tp 1 (by omega)
  have := s0.p1; have := s1.p1; have := s0.t0; have := s1.t0
  simp only [Nat.sub_zero, Nat.sub_self] at a0 a1
  refine ⟨(max (p 0) (p 1) + 1) / 2, ⟨fun i hi => ?_, ?_⟩, ?_⟩
  · rcases (show i = 0 ∨ i = 1 by omega) with rfl | rfl <;> omega
  · omega
  · unfold Rm; omega
structure Tn (M i : Nat) (p T n p' T' K' : Nat → Nat) : Prop where
  po : p' (1 - i) = p (1 - i)
  to : T' (1 - i) = T (1 - i)
  pm : p i ≤ p' i
  tm : T i ≤ T' i
  pf : n i = 1 ∨ n i = 2 ∨ n i = 3 → p i < p' i
  tk : T i < p (1 - i) → T i < T' i
  pb : p' i ≤ 2 * M
  kh : K' i = T' (1 - i)
theorem Tn.cm {M i : Nat} {p T n p' T' K' : Nat → Nat} (hi : i < 2) (C : Cm M p) (t : Tn M i p T n p' T' K') : Cm M p' := by
  have := t.po; have := t.pm; have := t.pb
  have := C.ge; have c0 := C.le 0 (by omega); have c1 := C.le 1 (by omega)
  rcases (show i = 0 ∨ i = 1 by omega) with rfl | rfl
  · refine ⟨fun k hk => ?_, ?_⟩
    · rcases (show k = 0 ∨ k = 1 by omega) with rfl | rfl <;> simp only [Nat.sub_zero] at * <;> omega
    · simp only [Nat.sub_zero] at *; omega
  · refine ⟨fun k hk => ?_, ?_⟩
    · rcases (show k = 0 ∨ k = 1 by omega) with rfl | rfl <;> simp only [Nat.sub_self] at * <;> omega
    · simp only [Nat.sub_self] at *; omega
theorem even_ge {p T t : Nat} (h1 : 2 * t ≤ p) (h2 : p ≤ 2 * t + 2) (h4 : T ≤ 2 * t + 2) (h5 : p = 2 * t → T = 2 * t) (n : p ≠ 2 * t + 1) : T ≤ p ∧ p % 2 = 0 := by omega
theorem calm_step {M : Nat} {p K T n h p1 K1 T1 n1 h1 p2 K2 T2 n2 h2} (J : Jn p K T n h) (C : Cm M p) (a : Tn M 0 p T n p1 T1 K1) (J1 : Jn p1 K1 T1 n1 h1) (b : Tn M 1 p1 T1 n1 p2 T2 K2) (kk : K2 0 = K1 0) (J2 : Jn p2 K2 T2 n2 h2) :
    Rm M p2 T2 < Rm M p T ∨ (Rm M p2 T2 = 0 ∧ (Rm M p T = 0 → n2 0 = 0 ∧ n2 1 = 0)) := by
  obtain ⟨po, to, pm, tm, pf, tk, pb, kh⟩ := a
  obtain ⟨qo, uo, qm, um, qf, uk, qb, lh⟩ := b
  have C1 := C.ge
  have c0 := C.le 0 (by omega); have c1 := C.le 1 (by omega)
  have e0 := J.tp 0 (by omega); have e1 := J.tp 1 (by omega)
  have f0 := J1.tp 0 (by omega); have f1 := J1.tp 1 (by omega)
  have g0 := J2.tp 0 (by omega); have g1 := J2.tp 1 (by omega)
  obtain ⟨t0, s0⟩ := J.sd 0 (by omega)
  obtain ⟨t1, s1⟩ := J1.sd 1 (by omega)
  obtain ⟨w0, v0⟩ := J2.sd 0 (by omega)
  obtain ⟨w1, v1⟩ := J2.sd 1 (by omega)
  obtain ⟨x0, y0⟩ := J.sd 1 (by omega)
  simp only [Nat.sub_zero, Nat.sub_self] at po to tk kh qo uo uk lh e0 e1 f0 f1 g0 g1
  have na := s0.name_a.2
  have nb := s1.name_a.2
  have h1 := s0.p0; have h2 := s0.p1; have h3 := s0.t0; have h4 := s0.t1; have h5 := s0.sh
  have i1 := s1.p0; have i2 := s1.p1; have i3 := s1.t0; have i4 := s1.t1; have i5 := s1.sh
  by_cases c : Rm M p2 T2 < Rm M p T
  · exact .inl c
  right
  unfold Rm at c ⊢
  have z1 : p1 0 = p 0 := by omega
  have z2 : T1 0 = T 0 := by omega
  have z3 : p2 1 = p1 1 := by omega
  have z4 : T2 1 = T1 1 := by omega
  have nf : ¬ (n 0 = 1 ∨ n 0 = 2 ∨ n 0 = 3) := fun z => by have := pf z; omega
  have ng : ¬ (n1 1 = 1 ∨ n1 1 = 2 ∨ n1 1 = 3) := fun z => by have := qf z; omega
  have nh : ¬ T 0 < p 1 := fun z => by have := tk z; omega
  have ni : ¬ T1 1 < p1 0 := fun z => by have := uk z; omega
  have n1' : p 0 ≠ 2 * t0 + 1 := fun z => nf (na.mpr z)
  have n2' : p1 1 ≠ 2 * t1 + 1 := fun z => ng (nb.mpr z)
  obtain ⟨u1, u2⟩ := even_ge h1 h2 h4 h5 n1'
  obtain ⟨u3, u4⟩ := even_ge i1 i2 i4 i5 n2'
  clear h1 h2 h3 h4 h5 i1 i2 i3 i4 i5 n1' n2' nf ng na nb pf qf tk uk s0 s1 y0 c
  have r1 : T 0 = p 1 := by omega
  have r2 : T 1 = p 0 := by omega
  have r3 : p 0 = p 1 := by omega
  have r4 : p 0 = 2 * M := by omega
  have all : p2 0 = 2 * M ∧ p2 1 = 2 * M ∧ T2 0 = 2 * M ∧ T2 1 = 2 * M := by omega
  refine ⟨by omega, fun _ => ?_⟩
  have k0 : K2 0 = 2 * M := by omega
  have k1 : K2 1 = 2 * M := by omega
  obtain ⟨a1, a2, a3, a4⟩ := all
  refine ⟨v0.name_a.1.mpr ?_, v1.name_a.1.mpr ?_⟩
  · have := v0.p0; have := v0.p1; have := v0.nb; omega
  · have := v1.p0; have := v1.p1; have := v1.nb; omega
end StM


set_option maxRecDepth 100000
set_option maxHeartbeats 4000000
namespace K62
open PySem L2 Com StM
noncomputable def tHold (u : TS) : TS := u
theorem pss_hold {X : Cx} {l : List Stmt} {u : TS} (h : PSs X l u) : PSs X l (tHold u) := h
theorem qss_hold {X : Cx} {l : List Stmt} {u : TS} (h : QSs X l u) : QSs X l (tHold u) := ⟨h.h⟩
theorem gen_ends {u : TS} {D : Ends} {σ : St} {H : Hp} (h : ∀ D', D' = D → u D' σ H) : u D σ H := h D rfl
noncomputable def top (i : Nat) : Stmt := PySem.Challenge.pw_slowroad_k62_whole_talks_of_states.main.body.getD i (.Pass ⟨0, 0, 0, 0⟩)
theorem len_1 {α : Type} {us : List α} (h : us.length = 1) : ∃ a0, us = [a0] := List.length_eq_one_iff.mp h
theorem len_2 {α : Type} {us : List α} (h : us.length = 2) : ∃ a0 a1, us = [a0, a1] := by
  obtain ⟨a, t, rfl⟩ := List.exists_cons_of_length_eq_add_one h
  obtain ⟨b0, rfl⟩ := len_1 (Nat.succ.inj h)
  exact ⟨a, b0, rfl⟩
theorem len_3 {α : Type} {us : List α} (h : us.length = 3) : ∃ a0 a1 a2, us = [a0, a1, a2] := by
  obtain ⟨a, t, rfl⟩ := List.exists_cons_of_length_eq_add_one h
  obtain ⟨b0, b1, rfl⟩ := len_2 (Nat.succ.inj h)
  exact ⟨a, b0, b1, rfl⟩
theorem len_4 {α : Type} {us : List α} (h : us.length = 4) : ∃ a0 a1 a2 a3, us = [a0, a1, a2, a3] := by
  obtain ⟨a, t, rfl⟩ := List.exists_cons_of_length_eq_add_one h
  obtain ⟨b0, b1, b2, rfl⟩ := len_3 (Nat.succ.inj h)
  exact ⟨a, b0, b1, b2, rfl⟩
theorem len_5 {α : Type} {us : List α} (h : us.length = 5) : ∃ a0 a1 a2 a3 a4, us = [a0, a1, a2, a3, a4] := by
  obtain ⟨a, t, rfl⟩ := List.exists_cons_of_length_eq_add_one h
  obtain ⟨b0, b1, b2, b3, rfl⟩ := len_4 (Nat.succ.inj h)
  exact ⟨a, b0, b1, b2, b3, rfl⟩
theorem len_6 {α : Type} {us : List α} (h : us.length = 6) : ∃ a0 a1 a2 a3 a4 a5, us = [a0, a1, a2, a3, a4, a5] := by
  obtain ⟨a, t, rfl⟩ := List.exists_cons_of_length_eq_add_one h
  obtain ⟨b0, b1, b2, b3, b4, rfl⟩ := len_5 (Nat.succ.inj h)
  exact ⟨a, b0, b1, b2, b3, b4, rfl⟩
noncomputable abbrev s__wall : Stmt := top 0
noncomputable abbrev s_NotNow___init__ : Stmt := inClass (top 3) 0
theorem sc_NotNow___init__ : FnScope ["self", "state", "wish"] ["self", "state", "wish"] (defScope s_NotNow___init__) := ⟨rfl, rfl, rfl, by decide +kernel, rfl, by decide +kernel, by decide +kernel⟩
theorem bd_NotNow___init__ : ∀ (kV doc pm : Value) (an : Option Addr) (cdv ct : Value) (us : List Value), us.length = (["self", "state", "wish"] : List Str).length → bindArgs (PySem.W.fnOf "__init__" "NotNow.__init__" (defArgs s_NotNow___init__) (defBody s_NotNow___init__) (defScope s_NotNow___init__) .none kV doc pm an cdv ct) ⟨us, []⟩ = pure ((["self", "state", "wish"] : List Str).zip us) := by
  intro _ _ _ _ _ _ us hl; obtain ⟨_, _, _, rfl⟩ := len_3 hl; rfl
noncomputable abbrev s_State_name : Stmt := inClass (top 5) 0
noncomputable abbrev s_State_wish_begin : Stmt := inClass (top 5) 1
theorem sc_State_wish_begin : FnScope ["self"] ["self"] (defScope s_State_wish_begin) := ⟨rfl, rfl, rfl, by decide +kernel, rfl, by decide +kernel, by decide +kernel⟩
theorem bd_State_wish_begin : ∀ (kV doc pm : Value) (an : Option Addr) (cdv ct : Value) (us : List Value), us.length = (["self"] : List Str).length → bindArgs (PySem.W.fnOf "wish_begin" "State.wish_begin" (defArgs s_State_wish_begin) (defBody s_State_wish_begin) (defScope s_State_wish_begin) .none kV doc pm an cdv ct) ⟨us, []⟩ = pure ((["self"] : List Str).zip us) := by
  intro _ _ _ _ _ _ us hl; obtain ⟨_, rfl⟩ := len_1 hl; rfl
noncomputable abbrev s_State_wish_end : Stmt := inClass (top 5) 2
theorem sc_State_wish_end : FnScope ["self"] ["self"] (defScope s_State_wish_end) := ⟨rfl, rfl, rfl, by decide +kernel, rfl, by decide +kernel, by decide +kernel⟩
theorem bd_State_wish_end : ∀ (kV doc pm : Value) (an : Option Addr) (cdv ct : Value) (us : List Value), us.length = (["self"] : List Str).length → bindArgs (PySem.W.fnOf "wish_end" "State.wish_end" (defArgs s_State_wish_end) (defBody s_State_wish_end) (defScope s_State_wish_end) .none kV doc pm an cdv ct) ⟨us, []⟩ = pure ((["self"] : List Str).zip us) := by
  intro _ _ _ _ _ _ us hl; obtain ⟨_, rfl⟩ := len_1 hl; rfl
noncomputable abbrev s_State_may_put : Stmt := inClass (top 5) 3
noncomputable abbrev s_State_begun : Stmt := inClass (top 5) 4
theorem sc_State_begun : FnScope ["self"] ["self"] (defScope s_State_begun) := ⟨rfl, rfl, rfl, by decide +kernel, rfl, by decide +kernel, by decide +kernel⟩
theorem bd_State_begun : ∀ (kV doc pm : Value) (an : Option Addr) (cdv ct : Value) (us : List Value), us.length = (["self"] : List Str).length → bindArgs (PySem.W.fnOf "begun" "State.begun" (defArgs s_State_begun) (defBody s_State_begun) (defScope s_State_begun) .none kV doc pm an cdv ct) ⟨us, []⟩ = pure ((["self"] : List Str).zip us) := by
  intro _ _ _ _ _ _ us hl; obtain ⟨_, rfl⟩ := len_1 hl; rfl
noncomputable abbrev s_State_ended : Stmt := inClass (top 5) 5
theorem sc_State_ended : FnScope ["self"] ["self"] (defScope s_State_ended) := ⟨rfl, rfl, rfl, by decide +kernel, rfl, by decide +kernel, by decide +kernel⟩
theorem bd_State_ended : ∀ (kV doc pm : Value) (an : Option Addr) (cdv ct : Value) (us : List Value), us.length = (["self"] : List Str).length → bindArgs (PySem.W.fnOf "ended" "State.ended" (defArgs s_State_ended) (defBody s_State_ended) (defScope s_State_ended) .none kV doc pm an cdv ct) ⟨us, []⟩ = pure ((["self"] : List Str).zip us) := by
  intro _ _ _ _ _ _ us hl; obtain ⟨_, rfl⟩ := len_1 hl; rfl
noncomputable abbrev s_State_answered : Stmt := inClass (top 5) 6
theorem sc_State_answered : FnScope ["self"] ["self"] (defScope s_State_answered) := ⟨rfl, rfl, rfl, by decide +kernel, rfl, by decide +kernel, by decide +kernel⟩
theorem bd_State_answered : ∀ (kV doc pm : Value) (an : Option Addr) (cdv ct : Value) (us : List Value), us.length = (["self"] : List Str).length → bindArgs (PySem.W.fnOf "answered" "State.answered" (defArgs s_State_answered) (defBody s_State_answered) (defScope s_State_answered) .none kV doc pm an cdv ct) ⟨us, []⟩ = pure ((["self"] : List Str).zip us) := by
  intro _ _ _ _ _ _ us hl; obtain ⟨_, rfl⟩ := len_1 hl; rfl
noncomputable abbrev s_Shut_name : Stmt := inClass (top 6) 0
theorem sc_Shut_name : FnScope ["self"] ["self"] (defScope s_Shut_name) := ⟨rfl, rfl, rfl, by decide +kernel, rfl, by decide +kernel, by decide +kernel⟩
theorem bd_Shut_name : ∀ (kV doc pm : Value) (an : Option Addr) (cdv ct : Value) (us : List Value), us.length = (["self"] : List Str).length → bindArgs (PySem.W.fnOf "name" "Shut.name" (defArgs s_Shut_name) (defBody s_Shut_name) (defScope s_Shut_name) .none kV doc pm an cdv ct) ⟨us, []⟩ = pure ((["self"] : List Str).zip us) := by
  intro _ _ _ _ _ _ us hl; obtain ⟨_, rfl⟩ := len_1 hl; rfl
noncomputable abbrev s_Shut_wish_begin : Stmt := inClass (top 6) 1
theorem sc_Shut_wish_begin : FnScope ["self"] ["self"] (defScope s_Shut_wish_begin) := ⟨rfl, rfl, rfl, by decide +kernel, rfl, by decide +kernel, by decide +kernel⟩
theorem bd_Shut_wish_begin : ∀ (kV doc pm : Value) (an : Option Addr) (cdv ct : Value) (us : List Value), us.length = (["self"] : List Str).length → bindArgs (PySem.W.fnOf "wish_begin" "Shut.wish_begin" (defArgs s_Shut_wish_begin) (defBody s_Shut_wish_begin) (defScope s_Shut_wish_begin) .none kV doc pm an cdv ct) ⟨us, []⟩ = pure ((["self"] : List Str).zip us) := by
  intro _ _ _ _ _ _ us hl; obtain ⟨_, rfl⟩ := len_1 hl; rfl
noncomputable abbrev s_Shut_begun : Stmt := inClass (top 6) 2
theorem sc_Shut_begun : FnScope ["self"] ["self"] (defScope s_Shut_begun) := ⟨rfl, rfl, rfl, by decide +kernel, rfl, by decide +kernel, by decide +kernel⟩
theorem bd_Shut_begun : ∀ (kV doc pm : Value) (an : Option Addr) (cdv ct : Value) (us : List Value), us.length = (["self"] : List Str).length → bindArgs (PySem.W.fnOf "begun" "Shut.begun" (defArgs s_Shut_begun) (defBody s_Shut_begun) (defScope s_Shut_begun) .none kV doc pm an cdv ct) ⟨us, []⟩ = pure ((["self"] : List Str).zip us) := by
  intro _ _ _ _ _ _ us hl; obtain ⟨_, rfl⟩ := len_1 hl; rfl
noncomputable abbrev s_Calling_name : Stmt := inClass (top 7) 0
theorem sc_Calling_name : FnScope ["self"] ["self"] (defScope s_Calling_name) := ⟨rfl, rfl, rfl, by decide +kernel, rfl, by decide +kernel, by decide +kernel⟩
theorem bd_Calling_name : ∀ (kV doc pm : Value) (an : Option Addr) (cdv ct : Value) (us : List Value), us.length = (["self"] : List Str).length → bindArgs (PySem.W.fnOf "name" "Calling.name" (defArgs s_Calling_name) (defBody s_Calling_name) (defScope s_Calling_name) .none kV doc pm an cdv ct) ⟨us, []⟩ = pure ((["self"] : List Str).zip us) := by
  intro _ _ _ _ _ _ us hl; obtain ⟨_, rfl⟩ := len_1 hl; rfl
noncomputable abbrev s_Calling_wish_end : Stmt := inClass (top 7) 1
theorem sc_Calling_wish_end : FnScope ["self"] ["self"] (defScope s_Calling_wish_end) := ⟨rfl, rfl, rfl, by decide +kernel, rfl, by decide +kernel, by decide +kernel⟩
theorem bd_Calling_wish_end : ∀ (kV doc pm : Value) (an : Option Addr) (cdv ct : Value) (us : List Value), us.length = (["self"] : List Str).length → bindArgs (PySem.W.fnOf "wish_end" "Calling.wish_end" (defArgs s_Calling_wish_end) (defBody s_Calling_wish_end) (defScope s_Calling_wish_end) .none kV doc pm an cdv ct) ⟨us, []⟩ = pure ((["self"] : List Str).zip us) := by
  intro _ _ _ _ _ _ us hl; obtain ⟨_, rfl⟩ := len_1 hl; rfl
noncomputable abbrev s_Calling_may_put : Stmt := inClass (top 7) 2
noncomputable abbrev s_Calling_begun : Stmt := inClass (top 7) 3
theorem sc_Calling_begun : FnScope ["self"] ["self"] (defScope s_Calling_begun) := ⟨rfl, rfl, rfl, by decide +kernel, rfl, by decide +kernel, by decide +kernel⟩
theorem bd_Calling_begun : ∀ (kV doc pm : Value) (an : Option Addr) (cdv ct : Value) (us : List Value), us.length = (["self"] : List Str).length → bindArgs (PySem.W.fnOf "begun" "Calling.begun" (defArgs s_Calling_begun) (defBody s_Calling_begun) (defScope s_Calling_begun) .none kV doc pm an cdv ct) ⟨us, []⟩ = pure ((["self"] : List Str).zip us) := by
  intro _ _ _ _ _ _ us hl; obtain ⟨_, rfl⟩ := len_1 hl; rfl
noncomputable abbrev s_Open_name : Stmt := inClass (top 8) 0
theorem sc_Open_name : FnScope ["self"] ["self"] (defScope s_Open_name) := ⟨rfl, rfl, rfl, by decide +kernel, rfl, by decide +kernel, by decide +kernel⟩
theorem bd_Open_name : ∀ (kV doc pm : Value) (an : Option Addr) (cdv ct : Value) (us : List Value), us.length = (["self"] : List Str).length → bindArgs (PySem.W.fnOf "name" "Open.name" (defArgs s_Open_name) (defBody s_Open_name) (defScope s_Open_name) .none kV doc pm an cdv ct) ⟨us, []⟩ = pure ((["self"] : List Str).zip us) := by
  intro _ _ _ _ _ _ us hl; obtain ⟨_, rfl⟩ := len_1 hl; rfl
noncomputable abbrev s_Open_wish_end : Stmt := inClass (top 8) 1
theorem sc_Open_wish_end : FnScope ["self"] ["self"] (defScope s_Open_wish_end) := ⟨rfl, rfl, rfl, by decide +kernel, rfl, by decide +kernel, by decide +kernel⟩
theorem bd_Open_wish_end : ∀ (kV doc pm : Value) (an : Option Addr) (cdv ct : Value) (us : List Value), us.length = (["self"] : List Str).length → bindArgs (PySem.W.fnOf "wish_end" "Open.wish_end" (defArgs s_Open_wish_end) (defBody s_Open_wish_end) (defScope s_Open_wish_end) .none kV doc pm an cdv ct) ⟨us, []⟩ = pure ((["self"] : List Str).zip us) := by
  intro _ _ _ _ _ _ us hl; obtain ⟨_, rfl⟩ := len_1 hl; rfl
noncomputable abbrev s_Open_may_put : Stmt := inClass (top 8) 2
noncomputable abbrev s_Open_ended : Stmt := inClass (top 8) 3
theorem sc_Open_ended : FnScope ["self"] ["self"] (defScope s_Open_ended) := ⟨rfl, rfl, rfl, by decide +kernel, rfl, by decide +kernel, by decide +kernel⟩
theorem bd_Open_ended : ∀ (kV doc pm : Value) (an : Option Addr) (cdv ct : Value) (us : List Value), us.length = (["self"] : List Str).length → bindArgs (PySem.W.fnOf "ended" "Open.ended" (defArgs s_Open_ended) (defBody s_Open_ended) (defScope s_Open_ended) .none kV doc pm an cdv ct) ⟨us, []⟩ = pure ((["self"] : List Str).zip us) := by
  intro _ _ _ _ _ _ us hl; obtain ⟨_, rfl⟩ := len_1 hl; rfl
noncomputable abbrev s_Left_name : Stmt := inClass (top 9) 0
theorem sc_Left_name : FnScope ["self"] ["self"] (defScope s_Left_name) := ⟨rfl, rfl, rfl, by decide +kernel, rfl, by decide +kernel, by decide +kernel⟩
theorem bd_Left_name : ∀ (kV doc pm : Value) (an : Option Addr) (cdv ct : Value) (us : List Value), us.length = (["self"] : List Str).length → bindArgs (PySem.W.fnOf "name" "Left.name" (defArgs s_Left_name) (defBody s_Left_name) (defScope s_Left_name) .none kV doc pm an cdv ct) ⟨us, []⟩ = pure ((["self"] : List Str).zip us) := by
  intro _ _ _ _ _ _ us hl; obtain ⟨_, rfl⟩ := len_1 hl; rfl
noncomputable abbrev s_Left_wish_end : Stmt := inClass (top 9) 1
theorem sc_Left_wish_end : FnScope ["self"] ["self"] (defScope s_Left_wish_end) := ⟨rfl, rfl, rfl, by decide +kernel, rfl, by decide +kernel, by decide +kernel⟩
theorem bd_Left_wish_end : ∀ (kV doc pm : Value) (an : Option Addr) (cdv ct : Value) (us : List Value), us.length = (["self"] : List Str).length → bindArgs (PySem.W.fnOf "wish_end" "Left.wish_end" (defArgs s_Left_wish_end) (defBody s_Left_wish_end) (defScope s_Left_wish_end) .none kV doc pm an cdv ct) ⟨us, []⟩ = pure ((["self"] : List Str).zip us) := by
  intro _ _ _ _ _ _ us hl; obtain ⟨_, rfl⟩ := len_1 hl; rfl
noncomputable abbrev s_Left_may_put : Stmt := inClass (top 9) 2
noncomputable abbrev s_Leaving_name : Stmt := inClass (top 10) 0
theorem sc_Leaving_name : FnScope ["self"] ["self"] (defScope s_Leaving_name) := ⟨rfl, rfl, rfl, by decide +kernel, rfl, by decide +kernel, by decide +kernel⟩
theorem bd_Leaving_name : ∀ (kV doc pm : Value) (an : Option Addr) (cdv ct : Value) (us : List Value), us.length = (["self"] : List Str).length → bindArgs (PySem.W.fnOf "name" "Leaving.name" (defArgs s_Leaving_name) (defBody s_Leaving_name) (defScope s_Leaving_name) .none kV doc pm an cdv ct) ⟨us, []⟩ = pure ((["self"] : List Str).zip us) := by
  intro _ _ _ _ _ _ us hl; obtain ⟨_, rfl⟩ := len_1 hl; rfl
noncomputable abbrev s_Leaving_ended : Stmt := inClass (top 10) 1
theorem sc_Leaving_ended : FnScope ["self"] ["self"] (defScope s_Leaving_ended) := ⟨rfl, rfl, rfl, by decide +kernel, rfl, by decide +kernel, by decide +kernel⟩
theorem bd_Leaving_ended : ∀ (kV doc pm : Value) (an : Option Addr) (cdv ct : Value) (us : List Value), us.length = (["self"] : List Str).length → bindArgs (PySem.W.fnOf "ended" "Leaving.ended" (defArgs s_Leaving_ended) (defBody s_Leaving_ended) (defScope s_Leaving_ended) .none kV doc pm an cdv ct) ⟨us, []⟩ = pure ((["self"] : List Str).zip us) := by
  intro _ _ _ _ _ _ us hl; obtain ⟨_, rfl⟩ := len_1 hl; rfl
noncomputable abbrev s_Leaving_answered : Stmt := inClass (top 10) 2
theorem sc_Leaving_answered : FnScope ["self"] ["self"] (defScope s_Leaving_answered) := ⟨rfl, rfl, rfl, by decide +kernel, rfl, by decide +kernel, by decide +kernel⟩
theorem bd_Leaving_answered : ∀ (kV doc pm : Value) (an : Option Addr) (cdv ct : Value) (us : List Value), us.length = (["self"] : List Str).length → bindArgs (PySem.W.fnOf "answered" "Leaving.answered" (defArgs s_Leaving_answered) (defBody s_Leaving_answered) (defScope s_Leaving_answered) .none kV doc pm an cdv ct) ⟨us, []⟩ = pure ((["self"] : List Str).zip us) := by
  intro _ _ _ _ _ _ us hl; obtain ⟨_, rfl⟩ := len_1 hl; rfl
noncomputable abbrev s_Waiting_name : Stmt := inClass (top 11) 0
theorem sc_Waiting_name : FnScope ["self"] ["self"] (defScope s_Waiting_name) := ⟨rfl, rfl, rfl, by decide +kernel, rfl, by decide +kernel, by decide +kernel⟩
theorem bd_Waiting_name : ∀ (kV doc pm : Value) (an : Option Addr) (cdv ct : Value) (us : List Value), us.length = (["self"] : List Str).length → bindArgs (PySem.W.fnOf "name" "Waiting.name" (defArgs s_Waiting_name) (defBody s_Waiting_name) (defScope s_Waiting_name) .none kV doc pm an cdv ct) ⟨us, []⟩ = pure ((["self"] : List Str).zip us) := by
  intro _ _ _ _ _ _ us hl; obtain ⟨_, rfl⟩ := len_1 hl; rfl
noncomputable abbrev s_Waiting_ended : Stmt := inClass (top 11) 1
theorem sc_Waiting_ended : FnScope ["self"] ["self"] (defScope s_Waiting_ended) := ⟨rfl, rfl, rfl, by decide +kernel, rfl, by decide +kernel, by decide +kernel⟩
theorem bd_Waiting_ended : ∀ (kV doc pm : Value) (an : Option Addr) (cdv ct : Value) (us : List Value), us.length = (["self"] : List Str).length → bindArgs (PySem.W.fnOf "ended" "Waiting.ended" (defArgs s_Waiting_ended) (defBody s_Waiting_ended) (defScope s_Waiting_ended) .none kV doc pm an cdv ct) ⟨us, []⟩ = pure ((["self"] : List Str).zip us) := by
  intro _ _ _ _ _ _ us hl; obtain ⟨_, rfl⟩ := len_1 hl; rfl
noncomputable abbrev s_Closing_name : Stmt := inClass (top 12) 0
theorem sc_Closing_name : FnScope ["self"] ["self"] (defScope s_Closing_name) := ⟨rfl, rfl, rfl, by decide +kernel, rfl, by decide +kernel, by decide +kernel⟩
theorem bd_Closing_name : ∀ (kV doc pm : Value) (an : Option Addr) (cdv ct : Value) (us : List Value), us.length = (["self"] : List Str).length → bindArgs (PySem.W.fnOf "name" "Closing.name" (defArgs s_Closing_name) (defBody s_Closing_name) (defScope s_Closing_name) .none kV doc pm an cdv ct) ⟨us, []⟩ = pure ((["self"] : List Str).zip us) := by
  intro _ _ _ _ _ _ us hl; obtain ⟨_, rfl⟩ := len_1 hl; rfl
noncomputable abbrev s_Closing_answered : Stmt := inClass (top 12) 1
theorem sc_Closing_answered : FnScope ["self"] ["self"] (defScope s_Closing_answered) := ⟨rfl, rfl, rfl, by decide +kernel, rfl, by decide +kernel, by decide +kernel⟩
theorem bd_Closing_answered : ∀ (kV doc pm : Value) (an : Option Addr) (cdv ct : Value) (us : List Value), us.length = (["self"] : List Str).length → bindArgs (PySem.W.fnOf "answered" "Closing.answered" (defArgs s_Closing_answered) (defBody s_Closing_answered) (defScope s_Closing_answered) .none kV doc pm an cdv ct) ⟨us, []⟩ = pure ((["self"] : List Str).zip us) := by
  intro _ _ _ _ _ _ us hl; obtain ⟨_, rfl⟩ := len_1 hl; rfl
noncomputable abbrev s__law_cell_at : Stmt := top 14
theorem sc__law_cell_at : FnScope ["_law_script", "_law_k"] ["_law_script", "_law_k"] (defScope s__law_cell_at) := ⟨rfl, rfl, rfl, by decide +kernel, rfl, by decide +kernel, by decide +kernel⟩
theorem bd__law_cell_at : ∀ (kV doc pm : Value) (an : Option Addr) (cdv ct : Value) (us : List Value), us.length = (["_law_script", "_law_k"] : List Str).length → bindArgs (PySem.W.fnOf "_law_cell_at" "_law_cell_at" (defArgs s__law_cell_at) (defBody s__law_cell_at) (defScope s__law_cell_at) .none kV doc pm an cdv ct) ⟨us, []⟩ = pure ((["_law_script", "_law_k"] : List Str).zip us) := by
  intro _ _ _ _ _ _ us hl; obtain ⟨_, _, rfl⟩ := len_2 hl; rfl
noncomputable abbrev s__law_table : Stmt := top 15
theorem sc__law_table : FnScope ["_law_talks", "_law_begins", "_law_ends", "_law_heard", "_law_others", "_law_other_ends", "_law_row"] ["_law_talks", "_law_begins", "_law_ends", "_law_heard", "_law_others", "_law_other_ends"] (defScope s__law_table) := ⟨rfl, rfl, rfl, by decide +kernel, rfl, by decide +kernel, by decide +kernel⟩
theorem bd__law_table : ∀ (kV doc pm : Value) (an : Option Addr) (cdv ct : Value) (us : List Value), us.length = (["_law_talks", "_law_begins", "_law_ends", "_law_heard", "_law_others", "_law_other_ends"] : List Str).length → bindArgs (PySem.W.fnOf "_law_table" "_law_table" (defArgs s__law_table) (defBody s__law_table) (defScope s__law_table) .none kV doc pm an cdv ct) ⟨us, []⟩ = pure ((["_law_talks", "_law_begins", "_law_ends", "_law_heard", "_law_others", "_law_other_ends"] : List Str).zip us) := by
  intro _ _ _ _ _ _ us hl; obtain ⟨_, _, _, _, _, _, rfl⟩ := len_6 hl; rfl
noncomputable abbrev s__law_count : Stmt := top 16
theorem sc__law_count : FnScope ["_law_row", "_law_word"] ["_law_row", "_law_word"] (defScope s__law_count) := ⟨rfl, rfl, rfl, by decide +kernel, rfl, by decide +kernel, by decide +kernel⟩
theorem bd__law_count : ∀ (kV doc pm : Value) (an : Option Addr) (cdv ct : Value) (us : List Value), us.length = (["_law_row", "_law_word"] : List Str).length → bindArgs (PySem.W.fnOf "_law_count" "_law_count" (defArgs s__law_count) (defBody s__law_count) (defScope s__law_count) .none kV doc pm an cdv ct) ⟨us, []⟩ = pure ((["_law_row", "_law_word"] : List Str).zip us) := by
  intro _ _ _ _ _ _ us hl; obtain ⟨_, _, rfl⟩ := len_2 hl; rfl
noncomputable abbrev s__law_name : Stmt := top 17
theorem sc__law_name : FnScope ["_law_side", "_law_put", "_law_taken", "_law_known", "_law_own", "_law_other", "_law_heard", "_law_other_ends", "_law_talks", "_law_begins", "_law_others"] ["_law_side", "_law_put", "_law_taken", "_law_known"] (defScope s__law_name) := ⟨rfl, rfl, rfl, by decide +kernel, rfl, by decide +kernel, by decide +kernel⟩
theorem bd__law_name : ∀ (kV doc pm : Value) (an : Option Addr) (cdv ct : Value) (us : List Value), us.length = (["_law_side", "_law_put", "_law_taken", "_law_known"] : List Str).length → bindArgs (PySem.W.fnOf "_law_name" "_law_name" (defArgs s__law_name) (defBody s__law_name) (defScope s__law_name) .none kV doc pm an cdv ct) ⟨us, []⟩ = pure ((["_law_side", "_law_put", "_law_taken", "_law_known"] : List Str).zip us) := by
  intro _ _ _ _ _ _ us hl; obtain ⟨_, _, _, _, rfl⟩ := len_4 hl; rfl
noncomputable abbrev s__law_wish : Stmt := top 18
theorem sc__law_wish : FnScope ["_law_states", "_law_side", "_law_word", "_law_put", "_law_taken", "_law_name_here", "_law_may", "_law_refused"] ["_law_states", "_law_side", "_law_word", "_law_put", "_law_taken"] (defScope s__law_wish) := ⟨rfl, rfl, rfl, by decide +kernel, rfl, by decide +kernel, by decide +kernel⟩
theorem bd__law_wish : ∀ (kV doc pm : Value) (an : Option Addr) (cdv ct : Value) (us : List Value), us.length = (["_law_states", "_law_side", "_law_word", "_law_put", "_law_taken"] : List Str).length → bindArgs (PySem.W.fnOf "_law_wish" "_law_wish" (defArgs s__law_wish) (defBody s__law_wish) (defScope s__law_wish) .none kV doc pm an cdv ct) ⟨us, []⟩ = pure ((["_law_states", "_law_side", "_law_word", "_law_put", "_law_taken"] : List Str).zip us) := by
  intro _ _ _ _ _ _ us hl; obtain ⟨_, _, _, _, _, rfl⟩ := len_5 hl; rfl
noncomputable abbrev s__law_hear : Stmt := top 19
theorem sc__law_hear : FnScope ["_law_states", "_law_side", "_law_put", "_law_known", "_law_many"] ["_law_states", "_law_side", "_law_put", "_law_known", "_law_many"] (defScope s__law_hear) := ⟨rfl, rfl, rfl, by decide +kernel, rfl, by decide +kernel, by decide +kernel⟩
theorem bd__law_hear : ∀ (kV doc pm : Value) (an : Option Addr) (cdv ct : Value) (us : List Value), us.length = (["_law_states", "_law_side", "_law_put", "_law_known", "_law_many"] : List Str).length → bindArgs (PySem.W.fnOf "_law_hear" "_law_hear" (defArgs s__law_hear) (defBody s__law_hear) (defScope s__law_hear) .none kV doc pm an cdv ct) ⟨us, []⟩ = pure ((["_law_states", "_law_side", "_law_put", "_law_known", "_law_many"] : List Str).zip us) := by
  intro _ _ _ _ _ _ us hl; obtain ⟨_, _, _, _, _, rfl⟩ := len_5 hl; rfl
noncomputable abbrev s__law_take : Stmt := top 20
theorem sc__law_take : FnScope ["_law_states", "_law_side", "_law_put", "_law_taken", "_law_known", "_law_other", "_law_word", "_law_heard"] ["_law_states", "_law_side", "_law_put", "_law_taken", "_law_known"] (defScope s__law_take) := ⟨rfl, rfl, rfl, by decide +kernel, rfl, by decide +kernel, by decide +kernel⟩
theorem bd__law_take : ∀ (kV doc pm : Value) (an : Option Addr) (cdv ct : Value) (us : List Value), us.length = (["_law_states", "_law_side", "_law_put", "_law_taken", "_law_known"] : List Str).length → bindArgs (PySem.W.fnOf "_law_take" "_law_take" (defArgs s__law_take) (defBody s__law_take) (defScope s__law_take) .none kV doc pm an cdv ct) ⟨us, []⟩ = pure ((["_law_states", "_law_side", "_law_put", "_law_taken", "_law_known"] : List Str).zip us) := by
  intro _ _ _ _ _ _ us hl; obtain ⟨_, _, _, _, _, rfl⟩ := len_5 hl; rfl
noncomputable abbrev s__law_right : Stmt := top 21
theorem sc__law_right : FnScope ["_law_states", "_law_put", "_law_taken", "_law_known", "_law_side"] ["_law_states", "_law_put", "_law_taken", "_law_known"] (defScope s__law_right) := ⟨rfl, rfl, rfl, by decide +kernel, rfl, by decide +kernel, by decide +kernel⟩
theorem bd__law_right : ∀ (kV doc pm : Value) (an : Option Addr) (cdv ct : Value) (us : List Value), us.length = (["_law_states", "_law_put", "_law_taken", "_law_known"] : List Str).length → bindArgs (PySem.W.fnOf "_law_right" "_law_right" (defArgs s__law_right) (defBody s__law_right) (defScope s__law_right) .none kV doc pm an cdv ct) ⟨us, []⟩ = pure ((["_law_states", "_law_put", "_law_taken", "_law_known"] : List Str).zip us) := by
  intro _ _ _ _ _ _ us hl; obtain ⟨_, _, _, _, rfl⟩ := len_4 hl; rfl
noncomputable abbrev s__law_calm : Stmt := top 22
theorem sc__law_calm : FnScope ["_law_states", "_law_put", "_law_taken", "_law_known", "_law_k", "_law_side"] ["_law_states", "_law_put", "_law_taken", "_law_known"] (defScope s__law_calm) := ⟨rfl, rfl, rfl, by decide +kernel, rfl, by decide +kernel, by decide +kernel⟩
theorem bd__law_calm : ∀ (kV doc pm : Value) (an : Option Addr) (cdv ct : Value) (us : List Value), us.length = (["_law_states", "_law_put", "_law_taken", "_law_known"] : List Str).length → bindArgs (PySem.W.fnOf "_law_calm" "_law_calm" (defArgs s__law_calm) (defBody s__law_calm) (defScope s__law_calm) .none kV doc pm an cdv ct) ⟨us, []⟩ = pure ((["_law_states", "_law_put", "_law_taken", "_law_known"] : List Str).zip us) := by
  intro _ _ _ _ _ _ us hl; obtain ⟨_, _, _, _, rfl⟩ := len_4 hl; rfl
noncomputable abbrev s_law : Stmt := top 23
theorem sc_law : FnScope ["_law_script", "_law_states", "_law_put", "_law_taken", "_law_known", "_law_cell", "_law_side", "_law_way", "_law_fine", "_law_more"] ["_law_script"] (defScope s_law) := ⟨rfl, rfl, rfl, by decide +kernel, rfl, by decide +kernel, by decide +kernel⟩
theorem bd_law : ∀ (kV doc pm : Value) (an : Option Addr) (cdv ct : Value) (us : List Value), us.length = (["_law_script"] : List Str).length → bindArgs (PySem.W.fnOf "law" "law" (defArgs s_law) (defBody s_law) (defScope s_law) .none kV doc pm an cdv ct) ⟨us, []⟩ = pure ((["_law_script"] : List Str).zip us) := by
  intro _ _ _ _ _ _ us hl; obtain ⟨_, rfl⟩ := len_1 hl; rfl
structure Txt (K : PySem.W.Frag) (mg : Str → Option Value) (C_RoadError C_NotNow C_State C_Shut C_Calling C_Open C_Left C_Leaving C_Waiting C_Closing : Addr) : Prop where
  xm_RoadError : XmAt K mg "RoadError" C_RoadError
  xm_NotNow : XmAt K mg "NotNow" C_NotNow
  x_NotNow : XcI K mg "NotNow" C_NotNow C_RoadError
  g_NotNow : XgAt K C_NotNow
  kp_NotNow : PySem.W.keepIn K (.ref C_NotNow) = true
  xf_NotNow_state : XfAt K C_NotNow "state"
  xf_NotNow_wish : XfAt K C_NotNow "wish"
  qv_NotNow : PySem.W.kitOne K (.ref C_NotNow) (.type "ValueError") = some true
  q_NotNow_RoadError : PySem.W.kitOne K (.ref C_NotNow) (.ref C_RoadError) = some true
  m_NotNow_RoadError : isx K (.ref C_NotNow) C_RoadError = some true
  q_NotNow_NotNow : PySem.W.kitOne K (.ref C_NotNow) (.ref C_NotNow) = some true
  m_NotNow_NotNow : isx K (.ref C_NotNow) C_NotNow = some true
  k_State : KlsAt K mg "State" C_State
  k_Shut : KlsAt K mg "Shut" C_Shut
  k_Calling : KlsAt K mg "Calling" C_Calling
  k_Open : KlsAt K mg "Open" C_Open
  k_Left : KlsAt K mg "Left" C_Left
  k_Leaving : KlsAt K mg "Leaving" C_Leaving
  k_Waiting : KlsAt K mg "Waiting" C_Waiting
  k_Closing : KlsAt K mg "Closing" C_Closing
  ni_Shut : NoIni K C_Shut
  og_Shut : OgAt K C_Shut
  qs_Shut : PySem.W.kitOne K (.ref C_Shut) (.ref C_State) = some true
  di_Shut_wish_end : MethAt K C_Shut "wish_end" "State.wish_end" s_State_wish_end
  di_Shut_may_put : MethAt K C_Shut "may_put" "State.may_put" s_State_may_put
  di_Shut_ended : MethAt K C_Shut "ended" "State.ended" s_State_ended
  di_Shut_answered : MethAt K C_Shut "answered" "State.answered" s_State_answered
  ni_Calling : NoIni K C_Calling
  og_Calling : OgAt K C_Calling
  qs_Calling : PySem.W.kitOne K (.ref C_Calling) (.ref C_State) = some true
  di_Calling_wish_begin : MethAt K C_Calling "wish_begin" "State.wish_begin" s_State_wish_begin
  di_Calling_ended : MethAt K C_Calling "ended" "State.ended" s_State_ended
  di_Calling_answered : MethAt K C_Calling "answered" "State.answered" s_State_answered
  ni_Open : NoIni K C_Open
  og_Open : OgAt K C_Open
  qs_Open : PySem.W.kitOne K (.ref C_Open) (.ref C_State) = some true
  di_Open_wish_begin : MethAt K C_Open "wish_begin" "State.wish_begin" s_State_wish_begin
  di_Open_begun : MethAt K C_Open "begun" "State.begun" s_State_begun
  di_Open_answered : MethAt K C_Open "answered" "State.answered" s_State_answered
  ni_Left : NoIni K C_Left
  og_Left : OgAt K C_Left
  qs_Left : PySem.W.kitOne K (.ref C_Left) (.ref C_State) = some true
  di_Left_wish_begin : MethAt K C_Left "wish_begin" "State.wish_begin" s_State_wish_begin
  di_Left_begun : MethAt K C_Left "begun" "State.begun" s_State_begun
  di_Left_ended : MethAt K C_Left "ended" "State.ended" s_State_ended
  di_Left_answered : MethAt K C_Left "answered" "State.answered" s_State_answered
  ni_Leaving : NoIni K C_Leaving
  og_Leaving : OgAt K C_Leaving
  qs_Leaving : PySem.W.kitOne K (.ref C_Leaving) (.ref C_State) = some true
  di_Leaving_wish_begin : MethAt K C_Leaving "wish_begin" "State.wish_begin" s_State_wish_begin
  di_Leaving_wish_end : MethAt K C_Leaving "wish_end" "State.wish_end" s_State_wish_end
  di_Leaving_may_put : MethAt K C_Leaving "may_put" "State.may_put" s_State_may_put
  di_Leaving_begun : MethAt K C_Leaving "begun" "State.begun" s_State_begun
  ni_Waiting : NoIni K C_Waiting
  og_Waiting : OgAt K C_Waiting
  qs_Waiting : PySem.W.kitOne K (.ref C_Waiting) (.ref C_State) = some true
  di_Waiting_wish_begin : MethAt K C_Waiting "wish_begin" "State.wish_begin" s_State_wish_begin
  di_Waiting_wish_end : MethAt K C_Waiting "wish_end" "State.wish_end" s_State_wish_end
  di_Waiting_may_put : MethAt K C_Waiting "may_put" "State.may_put" s_State_may_put
  di_Waiting_begun : MethAt K C_Waiting "begun" "State.begun" s_State_begun
  di_Waiting_answered : MethAt K C_Waiting "answered" "State.answered" s_State_answered
  ni_Closing : NoIni K C_Closing
  og_Closing : OgAt K C_Closing
  qs_Closing : PySem.W.kitOne K (.ref C_Closing) (.ref C_State) = some true
  di_Closing_wish_begin : MethAt K C_Closing "wish_begin" "State.wish_begin" s_State_wish_begin
  di_Closing_wish_end : MethAt K C_Closing "wish_end" "State.wish_end" s_State_wish_end
  di_Closing_may_put : MethAt K C_Closing "may_put" "State.may_put" s_State_may_put
  di_Closing_begun : MethAt K C_Closing "begun" "State.begun" s_State_begun
  di_Closing_ended : MethAt K C_Closing "ended" "State.ended" s_State_ended
  d__wall : DefAt K mg "_wall" s__wall
  d_NotNow___init__ : MethAt K C_NotNow "__init__" "NotNow.__init__" s_NotNow___init__
  d_State_name : MethAt K C_State "name" "State.name" s_State_name
  d_State_wish_begin : MethAt K C_State "wish_begin" "State.wish_begin" s_State_wish_begin
  d_State_wish_end : MethAt K C_State "wish_end" "State.wish_end" s_State_wish_end
  d_State_may_put : MethAt K C_State "may_put" "State.may_put" s_State_may_put
  d_State_begun : MethAt K C_State "begun" "State.begun" s_State_begun
  d_State_ended : MethAt K C_State "ended" "State.ended" s_State_ended
  d_State_answered : MethAt K C_State "answered" "State.answered" s_State_answered
  d_Shut_name : MethAt K C_Shut "name" "Shut.name" s_Shut_name
  d_Shut_wish_begin : MethAt K C_Shut "wish_begin" "Shut.wish_begin" s_Shut_wish_begin
  d_Shut_begun : MethAt K C_Shut "begun" "Shut.begun" s_Shut_begun
  d_Calling_name : MethAt K C_Calling "name" "Calling.name" s_Calling_name
  d_Calling_wish_end : MethAt K C_Calling "wish_end" "Calling.wish_end" s_Calling_wish_end
  d_Calling_may_put : MethAt K C_Calling "may_put" "Calling.may_put" s_Calling_may_put
  d_Calling_begun : MethAt K C_Calling "begun" "Calling.begun" s_Calling_begun
  d_Open_name : MethAt K C_Open "name" "Open.name" s_Open_name
  d_Open_wish_end : MethAt K C_Open "wish_end" "Open.wish_end" s_Open_wish_end
  d_Open_may_put : MethAt K C_Open "may_put" "Open.may_put" s_Open_may_put
  d_Open_ended : MethAt K C_Open "ended" "Open.ended" s_Open_ended
  d_Left_name : MethAt K C_Left "name" "Left.name" s_Left_name
  d_Left_wish_end : MethAt K C_Left "wish_end" "Left.wish_end" s_Left_wish_end
  d_Left_may_put : MethAt K C_Left "may_put" "Left.may_put" s_Left_may_put
  d_Leaving_name : MethAt K C_Leaving "name" "Leaving.name" s_Leaving_name
  d_Leaving_ended : MethAt K C_Leaving "ended" "Leaving.ended" s_Leaving_ended
  d_Leaving_answered : MethAt K C_Leaving "answered" "Leaving.answered" s_Leaving_answered
  d_Waiting_name : MethAt K C_Waiting "name" "Waiting.name" s_Waiting_name
  d_Waiting_ended : MethAt K C_Waiting "ended" "Waiting.ended" s_Waiting_ended
  d_Closing_name : MethAt K C_Closing "name" "Closing.name" s_Closing_name
  d_Closing_answered : MethAt K C_Closing "answered" "Closing.answered" s_Closing_answered
  d__law_cell_at : DefAt K mg "_law_cell_at" s__law_cell_at
  d__law_table : DefAt K mg "_law_table" s__law_table
  d__law_count : DefAt K mg "_law_count" s__law_count
  d__law_name : DefAt K mg "_law_name" s__law_name
  d__law_wish : DefAt K mg "_law_wish" s__law_wish
  d__law_hear : DefAt K mg "_law_hear" s__law_hear
  d__law_take : DefAt K mg "_law_take" s__law_take
  d__law_right : DefAt K mg "_law_right" s__law_right
  d__law_calm : DefAt K mg "_law_calm" s__law_calm
  d_law : DefAt K mg "law" s_law
  b_ValueError : mg "ValueError" = none
  b_len : mg "len" = none
  b_min : mg "min" = none
  b_range : mg "range" = none
noncomputable section
abbrev Ob := PySem.Obj
abbrev Pm := PySem.Params
abbrev q (x : String) (k : Nat) : PySem.Value := .str (PySem.Str.ofString x) k
abbrev tp (x : List PySem.Value) : PySem.Obj := ⟨.type "tuple", none, .seq x.toArray, #[]⟩
abbrev lf (o : PySem.Obj) : PySem.W.BT := .node o .nil .nil
abbrev fm (n m : String) (t : PySem.Stmt) := PySem.FuncData.mk (PySem.Str.ofString n) (PySem.Str.ofString m) (L2.defArgs t) (.stmts (L2.defBody t)) (L2.defScope t)
abbrev sO (x : String) : PySem.Str := PySem.Str.ofString x
abbrev den (P : PySem.Params) (x : String) (k : Nat) (v : PySem.Value) : PySem.DictEntry := PySem.DictEntry.mk (PySem.PyData.keyHash P (PySem.Str.ofString x)) (PySem.Value.str (PySem.Str.ofString x) k) v
abbrev nd := PySem.W.BT.node
def ob11:Ob:=tp []
def ob12:Ob:=⟨.none,none,.fields #[],#[]⟩
def ob13:Ob:=⟨.type "code",none,.fields #[q "<module>" 182,q "<module>" 183,q "/claim/cut.py" 184,.int 1 0,.int 0 0,.int 0 0,.int 0 0,.int 0 0,.ref 11,.bool false,.int 181 0,.ref 12,.none,.none,.none,.none,.int 185 0,.int 1 0,q "/claim/cut.py" 186],#[]⟩
def ob14:Ob:=⟨.type "frame",none,.plain,#[some (.ref 13),some (.ref 3),some (.ref 3),none,some (q "__main__" 164),none,some (.ref 0)]⟩
def ob15(P:Pm):Ob:=⟨.type "dict",none,.dict #[den P "__name__" 165 (q "slowroad.states" 241),den P "__doc__" 166 .none,den P "__package__" 167 .none,den P "__loader__" 168 (.builtin "__main__.__loader__#opaque"),den P "__spec__" 169 .none,den P "__annotations__" 170 (.ref 6),den P "__builtins__" 171 (.ref 4),den P "__file__" 173 (q "/claim/cut.py" 172),den P "__cached__" 174 .none,den P "_wall" 193 (.ref 21),den P "RoadError" 213 (.ref 31),den P "NotNow" 240 (.ref 51)] 12,#[]⟩
def ob16:Ob:=⟨.none,none,.fields #[.int 1 0,.int 0 0,.ref 20,.int 5 0,.int 0 0,.ref 27,.int 7 0,.int 0 0,.ref 40],#[]⟩
def ob19:Ob:=tp [q "k" 190]
def ob21:Ob:=⟨.none,none,.func (fm "_wall" "_wall" (top 0) 0 [] .none .none .none .none none .none .none 0),#[]⟩
def ob22:Ob:=⟨.type "code",none,.fields #[q "_wall" 187,q "_wall" 188,q "/claim/cut.py" 189,.int 1 0,.int 1 0,.int 0 0,.int 0 0,.int 3 0,.ref 15,.bool true,.int 181 0,.ref 16,.none,.ref 17,.ref 18,.ref 19,.int 191 0,.int 1 0,q "/claim/cut.py" 192],#[]⟩
def ob23:Ob:=⟨.type "function",none,.func (fm "_wall" "_wall" (top 0) 3 [] .none .none .none (q "__main__" 164) none (.ref 20) .none 0),#[]⟩
def ob24:Ob:=tp [.type "ValueError"]
def ob25:Ob:=⟨.type "builtin_function_or_method",none,.fields #[.builtin "type.__prepare__",.type "type"],#[]⟩
def ob26(P:Pm):Ob:=⟨.type "dict",none,.dict #[den P "__module__" 203 (q "slowroad.errors" 194),den P "__qualname__" 205 (q "RoadError" 204),den P "__firstlineno__" 207 (.int 5 206),den P "__static_attributes__" 208 (.ref 29)] 4,#[]⟩
def ob29:Ob:=⟨.type "code",none,.fields #[q "RoadError" 198,q "RoadError" 199,q "/claim/cut.py" 200,.int 5 0,.int 0 0,.int 0 0,.int 0 0,.int 0 0,.ref 25,.bool false,.int 181 0,.ref 26,.none,.none,.none,.none,.int 201 0,.int 5 0,q "/claim/cut.py" 202],#[]⟩
def ob30:Ob:=⟨.type "frame",none,.plain,#[some (.ref 27),some (.ref 3),some (.ref 24),none,some (q "slowroad.errors" 194),none,some (.ref 0)]⟩
def ob32(P:Pm):Ob:=⟨.type "dict",none,.dict #[den P "__module__" 203 (q "slowroad.errors" 194),den P "__firstlineno__" 207 (.int 5 206),den P "__static_attributes__" 208 (.ref 29),den P "__weakref__" 210 (.ref 32),den P "__doc__" 211 .none] 3,#[]⟩
def ob33:Ob:=⟨.type "type",none,.cls (.mk (sO "RoadError") [.type "ValueError"] [.ref 31,.type "ValueError",.type "Exception",.type "BaseException",.type "object"] 30 (sO "RoadError") true [] [.ref 51] false none false),#[some (.ref 22),none,some (q "RoadError" 196),some (q "RoadError" 204),some (.builtin "ValueError.__new__"),some (.bool true)]⟩
def ob34:Ob:=⟨.type "getset_descriptor",none,.fields #[q "__weakref__" 209,.ref 31,.builtin "ExceptionGroup.__weakref__",.none],#[]⟩
def ob35:Ob:=⟨.type "super",none,.fields #[.ref 31,.ref 31,.ref 31],#[]⟩
def ob36:Ob:=⟨.type "builtin_function_or_method",none,.fields #[.builtin "object.__init_subclass__",.ref 31],#[]⟩
def ob37:Ob:=tp [.ref 31]
def ob39(P:Pm):Ob:=⟨.type "dict",none,.dict #[den P "__module__" 221 (q "slowroad.errors" 194),den P "__qualname__" 223 (q "NotNow" 222),den P "__firstlineno__" 225 (.int 7 224),den P "__init__" 234 (.ref 48),den P "__static_attributes__" 237 (.ref 49)] 5,#[]⟩
def ob41:Ob:=⟨.none,none,.fields #[.int 9 0,.int 4 0,.ref 47],#[]⟩
def ob42:Ob:=⟨.type "code",none,.fields #[q "NotNow" 216,q "NotNow" 217,q "/claim/cut.py" 218,.int 7 0,.int 0 0,.int 0 0,.int 0 0,.int 0 0,.ref 38,.bool false,.int 181 0,.ref 39,.none,.none,.none,.none,.int 219 0,.int 7 0,q "/claim/cut.py" 220],#[]⟩
def ob43:Ob:=⟨.type "frame",none,.plain,#[some (.ref 40),some (.ref 3),some (.ref 37),none,some (q "slowroad.errors" 194),none,some (.ref 0)]⟩
def ob46:Ob:=tp [q "self" 229,q "state" 230,q "wish" 231]
def ob48:Ob:=⟨.none,none,.func (fm "__init__" "NotNow.__init__" (inClass (top 3) 0) 0 [] .none .none .none .none none .none .none 0),#[]⟩
def ob49:Ob:=⟨.type "code",none,.fields #[q "__init__" 226,q "NotNow.__init__" 227,q "/claim/cut.py" 228,.int 9 0,.int 3 0,.int 0 0,.int 0 0,.int 3 0,.ref 42,.bool true,.int 181 0,.ref 43,.none,.ref 44,.ref 45,.ref 46,.int 232 0,.int 9 0,q "/claim/cut.py" 233],#[]⟩
def ob50:Ob:=⟨.type "function",none,.func (fm "__init__" "NotNow.__init__" (inClass (top 3) 0) 3 [] .none .none .none (q "slowroad.errors" 194) none (.ref 47) .none 0),#[]⟩
def ob51:Ob:=tp [q "state" 235,q "wish" 236]
def ob52(P:Pm):Ob:=⟨.type "dict",none,.dict #[den P "__module__" 221 (q "slowroad.errors" 194),den P "__firstlineno__" 225 (.int 7 224),den P "__init__" 234 (.ref 48),den P "__static_attributes__" 237 (.ref 49),den P "__doc__" 238 .none] 2,#[]⟩
def ob53:Ob:=⟨.type "type",none,.cls (.mk (sO "NotNow") [.ref 31] [.ref 51,.ref 31,.type "ValueError",.type "Exception",.type "BaseException",.type "object"] 50 (sO "NotNow") true [] [] false none false),#[some (.ref 35),none,some (q "NotNow" 214),some (q "NotNow" 222),some (.builtin "ValueError.__new__"),some (.bool true)]⟩
def ob54:Ob:=⟨.type "super",none,.fields #[.ref 51,.ref 51,.ref 51],#[]⟩
def ob55:Ob:=⟨.type "builtin_function_or_method",none,.fields #[.builtin "object.__init_subclass__",.ref 51],#[]⟩
def ob56(P:Pm):Ob:=⟨.type "dict",none,.dict #[den P "__name__" 165 (q "slowroad.states" 241),den P "__doc__" 166 .none,den P "__package__" 167 .none,den P "__loader__" 168 (.builtin "__main__.__loader__#opaque"),den P "__spec__" 169 .none,den P "__annotations__" 170 (.ref 6),den P "__builtins__" 171 (.ref 4),den P "__file__" 173 (q "/claim/cut.py" 172),den P "__cached__" 174 .none,den P "_wall" 193 (.ref 21),den P "RoadError" 213 (.ref 31),den P "NotNow" 240 (.ref 51),den P "State" 311 (.ref 112)] 13,#[]⟩
def ob57:Ob:=⟨.none,none,.fields #[.int 1 0,.int 0 0,.ref 20,.int 5 0,.int 0 0,.ref 27,.int 7 0,.int 0 0,.ref 40,.int 13 0,.int 0 0,.ref 59],#[]⟩
def ob60(P:Pm):Ob:=⟨.type "dict",none,.dict #[den P "__module__" 250 (q "slowroad.states" 241),den P "__qualname__" 252 (q "State" 251),den P "__firstlineno__" 254 (.int 13 253),den P "name" 261 (.ref 67),den P "wish_begin" 268 (.ref 74),den P "wish_end" 275 (.ref 81),den P "may_put" 282 (.ref 88),den P "begun" 289 (.ref 95),den P "ended" 296 (.ref 102),den P "answered" 303 (.ref 109),den P "__static_attributes__" 304 (.ref 110)] 11,#[]⟩
def ob62:Ob:=⟨.none,none,.fields #[.int 15 0,.int 4 0,.ref 66,.int 18 0,.int 4 0,.ref 73,.int 21 0,.int 4 0,.ref 80,.int 24 0,.int 4 0,.ref 87,.int 27 0,.int 4 0,.ref 94,.int 30 0,.int 4 0,.ref 101,.int 33 0,.int 4 0,.ref 108],#[]⟩
def ob63:Ob:=⟨.type "code",none,.fields #[q "State" 245,q "State" 246,q "/claim/cut.py" 247,.int 13 0,.int 0 0,.int 0 0,.int 0 0,.int 0 0,.ref 57,.bool false,.int 181 0,.ref 58,.none,.none,.none,.none,.int 248 0,.int 13 0,q "/claim/cut.py" 249],#[]⟩
def ob64:Ob:=⟨.type "frame",none,.plain,#[some (.ref 59),some (.ref 3),some (.ref 56),none,some (q "slowroad.states" 241),none,some (.ref 0)]⟩
def ob67:Ob:=tp [q "self" 258]
def ob69:Ob:=⟨.none,none,.func (fm "name" "State.name" (inClass (top 5) 0) 0 [] .none .none .none .none none .none .none 0),#[]⟩
def ob70:Ob:=⟨.type "code",none,.fields #[q "name" 255,q "State.name" 256,q "/claim/cut.py" 257,.int 15 0,.int 1 0,.int 0 0,.int 0 0,.int 3 0,.ref 61,.bool true,.int 181 0,.ref 62,.none,.ref 63,.ref 64,.ref 65,.int 259 0,.int 15 0,q "/claim/cut.py" 260],#[]⟩
def ob71:Ob:=⟨.type "function",none,.func (fm "name" "State.name" (inClass (top 5) 0) 3 [] .none .none .none (q "slowroad.states" 241) none (.ref 66) .none 0),#[]⟩
def ob74:Ob:=tp [q "self" 265]
def ob76:Ob:=⟨.none,none,.func (fm "wish_begin" "State.wish_begin" (inClass (top 5) 1) 0 [] .none .none .none .none none .none .none 0),#[]⟩
def ob77:Ob:=⟨.type "code",none,.fields #[q "wish_begin" 262,q "State.wish_begin" 263,q "/claim/cut.py" 264,.int 18 0,.int 1 0,.int 0 0,.int 0 0,.int 3 0,.ref 68,.bool true,.int 181 0,.ref 69,.none,.ref 70,.ref 71,.ref 72,.int 266 0,.int 18 0,q "/claim/cut.py" 267],#[]⟩
def ob78:Ob:=⟨.type "function",none,.func (fm "wish_begin" "State.wish_begin" (inClass (top 5) 1) 3 [] .none .none .none (q "slowroad.states" 241) none (.ref 73) .none 0),#[]⟩
def ob81:Ob:=tp [q "self" 272]
def ob83:Ob:=⟨.none,none,.func (fm "wish_end" "State.wish_end" (inClass (top 5) 2) 0 [] .none .none .none .none none .none .none 0),#[]⟩
def ob84:Ob:=⟨.type "code",none,.fields #[q "wish_end" 269,q "State.wish_end" 270,q "/claim/cut.py" 271,.int 21 0,.int 1 0,.int 0 0,.int 0 0,.int 3 0,.ref 75,.bool true,.int 181 0,.ref 76,.none,.ref 77,.ref 78,.ref 79,.int 273 0,.int 21 0,q "/claim/cut.py" 274],#[]⟩
def ob85:Ob:=⟨.type "function",none,.func (fm "wish_end" "State.wish_end" (inClass (top 5) 2) 3 [] .none .none .none (q "slowroad.states" 241) none (.ref 80) .none 0),#[]⟩
def ob88:Ob:=tp [q "self" 279]
def ob90:Ob:=⟨.none,none,.func (fm "may_put" "State.may_put" (inClass (top 5) 3) 0 [] .none .none .none .none none .none .none 0),#[]⟩
def ob91:Ob:=⟨.type "code",none,.fields #[q "may_put" 276,q "State.may_put" 277,q "/claim/cut.py" 278,.int 24 0,.int 1 0,.int 0 0,.int 0 0,.int 3 0,.ref 82,.bool true,.int 181 0,.ref 83,.none,.ref 84,.ref 85,.ref 86,.int 280 0,.int 24 0,q "/claim/cut.py" 281],#[]⟩
def ob92:Ob:=⟨.type "function",none,.func (fm "may_put" "State.may_put" (inClass (top 5) 3) 3 [] .none .none .none (q "slowroad.states" 241) none (.ref 87) .none 0),#[]⟩
def ob95:Ob:=tp [q "self" 286]
def ob97:Ob:=⟨.none,none,.func (fm "begun" "State.begun" (inClass (top 5) 4) 0 [] .none .none .none .none none .none .none 0),#[]⟩
def ob98:Ob:=⟨.type "code",none,.fields #[q "begun" 283,q "State.begun" 284,q "/claim/cut.py" 285,.int 27 0,.int 1 0,.int 0 0,.int 0 0,.int 3 0,.ref 89,.bool true,.int 181 0,.ref 90,.none,.ref 91,.ref 92,.ref 93,.int 287 0,.int 27 0,q "/claim/cut.py" 288],#[]⟩
def ob99:Ob:=⟨.type "function",none,.func (fm "begun" "State.begun" (inClass (top 5) 4) 3 [] .none .none .none (q "slowroad.states" 241) none (.ref 94) .none 0),#[]⟩
def ob102:Ob:=tp [q "self" 293]
def ob104:Ob:=⟨.none,none,.func (fm "ended" "State.ended" (inClass (top 5) 5) 0 [] .none .none .none .none none .none .none 0),#[]⟩
def ob105:Ob:=⟨.type "code",none,.fields #[q "ended" 290,q "State.ended" 291,q "/claim/cut.py" 292,.int 30 0,.int 1 0,.int 0 0,.int 0 0,.int 3 0,.ref 96,.bool true,.int 181 0,.ref 97,.none,.ref 98,.ref 99,.ref 100,.int 294 0,.int 30 0,q "/claim/cut.py" 295],#[]⟩
def ob106:Ob:=⟨.type "function",none,.func (fm "ended" "State.ended" (inClass (top 5) 5) 3 [] .none .none .none (q "slowroad.states" 241) none (.ref 101) .none 0),#[]⟩
def ob109:Ob:=tp [q "self" 300]
def ob111:Ob:=⟨.none,none,.func (fm "answered" "State.answered" (inClass (top 5) 6) 0 [] .none .none .none .none none .none .none 0),#[]⟩
def ob112:Ob:=⟨.type "code",none,.fields #[q "answered" 297,q "State.answered" 298,q "/claim/cut.py" 299,.int 33 0,.int 1 0,.int 0 0,.int 0 0,.int 3 0,.ref 103,.bool true,.int 181 0,.ref 104,.none,.ref 105,.ref 106,.ref 107,.int 301 0,.int 33 0,q "/claim/cut.py" 302],#[]⟩
def ob113:Ob:=⟨.type "function",none,.func (fm "answered" "State.answered" (inClass (top 5) 6) 3 [] .none .none .none (q "slowroad.states" 241) none (.ref 108) .none 0),#[]⟩
def ob115(P:Pm):Ob:=⟨.type "dict",none,.dict #[den P "__module__" 250 (q "slowroad.states" 241),den P "__firstlineno__" 254 (.int 13 253),den P "name" 261 (.ref 67),den P "wish_begin" 268 (.ref 74),den P "wish_end" 275 (.ref 81),den P "may_put" 282 (.ref 88),den P "begun" 289 (.ref 95),den P "ended" 296 (.ref 102),den P "answered" 303 (.ref 109),den P "__static_attributes__" 304 (.ref 110),den P "__dict__" 306 (.ref 113),den P "__weakref__" 308 (.ref 114),den P "__doc__" 309 .none] 4,#[]⟩
def ob116:Ob:=⟨.type "type",none,.cls (.mk (sO "State") [.type "object"] [.ref 112,.type "object"] 111 (sO "State") true [] [] false none false),#[none,none,some (q "State" 243),some (q "State" 251),some (.builtin "object.__new__"),some (.bool true)]⟩
def ob117:Ob:=⟨.type "getset_descriptor",none,.fields #[q "__dict__" 305,.ref 112,.builtin "function.__dict__",.builtin "function.__dict__#set"],#[]⟩
def ob118:Ob:=⟨.type "getset_descriptor",none,.fields #[q "__weakref__" 307,.ref 112,.builtin "ExceptionGroup.__weakref__",.none],#[]⟩
def ob119:Ob:=⟨.type "super",none,.fields #[.ref 112,.ref 112,.ref 112],#[]⟩
def ob120:Ob:=⟨.type "builtin_function_or_method",none,.fields #[.builtin "object.__init_subclass__",.ref 112],#[]⟩
def ob121(P:Pm):Ob:=⟨.type "dict",none,.dict #[den P "__name__" 165 (q "slowroad.states" 241),den P "__doc__" 166 .none,den P "__package__" 167 .none,den P "__loader__" 168 (.builtin "__main__.__loader__#opaque"),den P "__spec__" 169 .none,den P "__annotations__" 170 (.ref 6),den P "__builtins__" 171 (.ref 4),den P "__file__" 173 (q "/claim/cut.py" 172),den P "__cached__" 174 .none,den P "_wall" 193 (.ref 21),den P "RoadError" 213 (.ref 31),den P "NotNow" 240 (.ref 51),den P "State" 311 (.ref 112),den P "Shut" 348 (.ref 147),den P "Calling" 392 (.ref 187)] 15,#[]⟩
def ob122:Ob:=⟨.none,none,.fields #[.int 1 0,.int 0 0,.ref 20,.int 5 0,.int 0 0,.ref 27,.int 7 0,.int 0 0,.ref 40,.int 13 0,.int 0 0,.ref 59,.int 35 0,.int 0 0,.ref 122,.int 45 0,.int 0 0,.ref 155],#[]⟩
def ob123:Ob:=⟨.type "type",none,.cls (.mk (sO "State") [.type "object"] [.ref 112,.type "object"] 111 (sO "State") true [] [.ref 147,.ref 187] false none false),#[none,none,some (q "State" 243),some (q "State" 251),some (.builtin "object.__new__"),some (.bool true)]⟩
def ob124:Ob:=tp [.ref 112]
def ob126(P:Pm):Ob:=⟨.type "dict",none,.dict #[den P "__module__" 319 (q "slowroad.states" 241),den P "__qualname__" 321 (q "Shut" 320),den P "__firstlineno__" 323 (.int 35 322),den P "name" 330 (.ref 130),den P "wish_begin" 337 (.ref 137),den P "begun" 344 (.ref 144),den P "__static_attributes__" 345 (.ref 145)] 7,#[]⟩
def ob128:Ob:=⟨.none,none,.fields #[.int 37 0,.int 4 0,.ref 129,.int 40 0,.int 4 0,.ref 136,.int 43 0,.int 4 0,.ref 143],#[]⟩
def ob129:Ob:=⟨.type "code",none,.fields #[q "Shut" 314,q "Shut" 315,q "/claim/cut.py" 316,.int 35 0,.int 0 0,.int 0 0,.int 0 0,.int 0 0,.ref 120,.bool false,.int 181 0,.ref 121,.none,.none,.none,.none,.int 317 0,.int 35 0,q "/claim/cut.py" 318],#[]⟩
def ob130:Ob:=⟨.type "frame",none,.plain,#[some (.ref 122),some (.ref 3),some (.ref 119),none,some (q "slowroad.states" 241),none,some (.ref 0)]⟩
def ob133:Ob:=tp [q "self" 327]
def ob135:Ob:=⟨.none,none,.func (fm "name" "Shut.name" (inClass (top 6) 0) 0 [] .none .none .none .none none .none .none 0),#[]⟩
def ob136:Ob:=⟨.type "code",none,.fields #[q "name" 324,q "Shut.name" 325,q "/claim/cut.py" 326,.int 37 0,.int 1 0,.int 0 0,.int 0 0,.int 3 0,.ref 124,.bool true,.int 181 0,.ref 125,.none,.ref 126,.ref 127,.ref 128,.int 328 0,.int 37 0,q "/claim/cut.py" 329],#[]⟩
def ob137:Ob:=⟨.type "function",none,.func (fm "name" "Shut.name" (inClass (top 6) 0) 3 [] .none .none .none (q "slowroad.states" 241) none (.ref 129) .none 0),#[]⟩
def ob140:Ob:=tp [q "self" 334]
def ob142:Ob:=⟨.none,none,.func (fm "wish_begin" "Shut.wish_begin" (inClass (top 6) 1) 0 [] .none .none .none .none none .none .none 0),#[]⟩
def ob143:Ob:=⟨.type "code",none,.fields #[q "wish_begin" 331,q "Shut.wish_begin" 332,q "/claim/cut.py" 333,.int 40 0,.int 1 0,.int 0 0,.int 0 0,.int 3 0,.ref 131,.bool true,.int 181 0,.ref 132,.none,.ref 133,.ref 134,.ref 135,.int 335 0,.int 40 0,q "/claim/cut.py" 336],#[]⟩
def ob144:Ob:=⟨.type "function",none,.func (fm "wish_begin" "Shut.wish_begin" (inClass (top 6) 1) 3 [] .none .none .none (q "slowroad.states" 241) none (.ref 136) .none 0),#[]⟩
def ob147:Ob:=tp [q "self" 341]
def ob149:Ob:=⟨.none,none,.func (fm "begun" "Shut.begun" (inClass (top 6) 2) 0 [] .none .none .none .none none .none .none 0),#[]⟩
def ob150:Ob:=⟨.type "code",none,.fields #[q "begun" 338,q "Shut.begun" 339,q "/claim/cut.py" 340,.int 43 0,.int 1 0,.int 0 0,.int 0 0,.int 3 0,.ref 138,.bool true,.int 181 0,.ref 139,.none,.ref 140,.ref 141,.ref 142,.int 342 0,.int 43 0,q "/claim/cut.py" 343],#[]⟩
def ob151:Ob:=⟨.type "function",none,.func (fm "begun" "Shut.begun" (inClass (top 6) 2) 3 [] .none .none .none (q "slowroad.states" 241) none (.ref 143) .none 0),#[]⟩
def ob153(P:Pm):Ob:=⟨.type "dict",none,.dict #[den P "__module__" 319 (q "slowroad.states" 241),den P "__firstlineno__" 323 (.int 35 322),den P "name" 330 (.ref 130),den P "wish_begin" 337 (.ref 137),den P "begun" 344 (.ref 144),den P "__static_attributes__" 345 (.ref 145),den P "__doc__" 346 .none] 2,#[]⟩
def ob154:Ob:=⟨.type "type",none,.cls (.mk (sO "Shut") [.ref 112] [.ref 147,.ref 112,.type "object"] 146 (sO "Shut") true [] [] false none false),#[some (.ref 117),none,some (q "Shut" 312),some (q "Shut" 320),some (.builtin "object.__new__"),some (.bool true)]⟩
def ob155:Ob:=⟨.type "super",none,.fields #[.ref 147,.ref 147,.ref 147],#[]⟩
def ob156:Ob:=⟨.type "builtin_function_or_method",none,.fields #[.builtin "object.__init_subclass__",.ref 147],#[]⟩
def ob159(P:Pm):Ob:=⟨.type "dict",none,.dict #[den P "__module__" 356 (q "slowroad.states" 241),den P "__qualname__" 358 (q "Calling" 357),den P "__firstlineno__" 360 (.int 45 359),den P "name" 367 (.ref 163),den P "wish_end" 374 (.ref 170),den P "may_put" 381 (.ref 177),den P "begun" 388 (.ref 184),den P "__static_attributes__" 389 (.ref 185)] 8,#[]⟩
def ob161:Ob:=⟨.none,none,.fields #[.int 47 0,.int 4 0,.ref 162,.int 50 0,.int 4 0,.ref 169,.int 53 0,.int 4 0,.ref 176,.int 56 0,.int 4 0,.ref 183],#[]⟩
def ob162:Ob:=⟨.type "code",none,.fields #[q "Calling" 351,q "Calling" 352,q "/claim/cut.py" 353,.int 45 0,.int 0 0,.int 0 0,.int 0 0,.int 0 0,.ref 153,.bool false,.int 181 0,.ref 154,.none,.none,.none,.none,.int 354 0,.int 45 0,q "/claim/cut.py" 355],#[]⟩
def ob163:Ob:=⟨.type "frame",none,.plain,#[some (.ref 155),some (.ref 3),some (.ref 152),none,some (q "slowroad.states" 241),none,some (.ref 0)]⟩
def ob166:Ob:=tp [q "self" 364]
def ob168:Ob:=⟨.none,none,.func (fm "name" "Calling.name" (inClass (top 7) 0) 0 [] .none .none .none .none none .none .none 0),#[]⟩
def ob169:Ob:=⟨.type "code",none,.fields #[q "name" 361,q "Calling.name" 362,q "/claim/cut.py" 363,.int 47 0,.int 1 0,.int 0 0,.int 0 0,.int 3 0,.ref 157,.bool true,.int 181 0,.ref 158,.none,.ref 159,.ref 160,.ref 161,.int 365 0,.int 47 0,q "/claim/cut.py" 366],#[]⟩
def ob170:Ob:=⟨.type "function",none,.func (fm "name" "Calling.name" (inClass (top 7) 0) 3 [] .none .none .none (q "slowroad.states" 241) none (.ref 162) .none 0),#[]⟩
def ob173:Ob:=tp [q "self" 371]
def ob175:Ob:=⟨.none,none,.func (fm "wish_end" "Calling.wish_end" (inClass (top 7) 1) 0 [] .none .none .none .none none .none .none 0),#[]⟩
def ob176:Ob:=⟨.type "code",none,.fields #[q "wish_end" 368,q "Calling.wish_end" 369,q "/claim/cut.py" 370,.int 50 0,.int 1 0,.int 0 0,.int 0 0,.int 3 0,.ref 164,.bool true,.int 181 0,.ref 165,.none,.ref 166,.ref 167,.ref 168,.int 372 0,.int 50 0,q "/claim/cut.py" 373],#[]⟩
def ob177:Ob:=⟨.type "function",none,.func (fm "wish_end" "Calling.wish_end" (inClass (top 7) 1) 3 [] .none .none .none (q "slowroad.states" 241) none (.ref 169) .none 0),#[]⟩
def ob180:Ob:=tp [q "self" 378]
def ob182:Ob:=⟨.none,none,.func (fm "may_put" "Calling.may_put" (inClass (top 7) 2) 0 [] .none .none .none .none none .none .none 0),#[]⟩
def ob183:Ob:=⟨.type "code",none,.fields #[q "may_put" 375,q "Calling.may_put" 376,q "/claim/cut.py" 377,.int 53 0,.int 1 0,.int 0 0,.int 0 0,.int 3 0,.ref 171,.bool true,.int 181 0,.ref 172,.none,.ref 173,.ref 174,.ref 175,.int 379 0,.int 53 0,q "/claim/cut.py" 380],#[]⟩
def ob184:Ob:=⟨.type "function",none,.func (fm "may_put" "Calling.may_put" (inClass (top 7) 2) 3 [] .none .none .none (q "slowroad.states" 241) none (.ref 176) .none 0),#[]⟩
def ob187:Ob:=tp [q "self" 385]
def ob189:Ob:=⟨.none,none,.func (fm "begun" "Calling.begun" (inClass (top 7) 3) 0 [] .none .none .none .none none .none .none 0),#[]⟩
def ob190:Ob:=⟨.type "code",none,.fields #[q "begun" 382,q "Calling.begun" 383,q "/claim/cut.py" 384,.int 56 0,.int 1 0,.int 0 0,.int 0 0,.int 3 0,.ref 178,.bool true,.int 181 0,.ref 179,.none,.ref 180,.ref 181,.ref 182,.int 386 0,.int 56 0,q "/claim/cut.py" 387],#[]⟩
def ob191:Ob:=⟨.type "function",none,.func (fm "begun" "Calling.begun" (inClass (top 7) 3) 3 [] .none .none .none (q "slowroad.states" 241) none (.ref 183) .none 0),#[]⟩
def ob193(P:Pm):Ob:=⟨.type "dict",none,.dict #[den P "__module__" 356 (q "slowroad.states" 241),den P "__firstlineno__" 360 (.int 45 359),den P "name" 367 (.ref 163),den P "wish_end" 374 (.ref 170),den P "may_put" 381 (.ref 177),den P "begun" 388 (.ref 184),den P "__static_attributes__" 389 (.ref 185),den P "__doc__" 390 .none] 2,#[]⟩
def ob194:Ob:=⟨.type "type",none,.cls (.mk (sO "Calling") [.ref 112] [.ref 187,.ref 112,.type "object"] 186 (sO "Calling") true [] [] false none false),#[some (.ref 150),none,some (q "Calling" 349),some (q "Calling" 357),some (.builtin "object.__new__"),some (.bool true)]⟩
def ob195:Ob:=⟨.type "super",none,.fields #[.ref 187,.ref 187,.ref 187],#[]⟩
def ob196:Ob:=⟨.type "builtin_function_or_method",none,.fields #[.builtin "object.__init_subclass__",.ref 187],#[]⟩
def ob197(P:Pm):Ob:=⟨.type "dict",none,.dict #[den P "__name__" 165 (q "slowroad.states" 241),den P "__doc__" 166 .none,den P "__package__" 167 .none,den P "__loader__" 168 (.builtin "__main__.__loader__#opaque"),den P "__spec__" 169 .none,den P "__annotations__" 170 (.ref 6),den P "__builtins__" 171 (.ref 4),den P "__file__" 173 (q "/claim/cut.py" 172),den P "__cached__" 174 .none,den P "_wall" 193 (.ref 21),den P "RoadError" 213 (.ref 31),den P "NotNow" 240 (.ref 51),den P "State" 311 (.ref 112),den P "Shut" 348 (.ref 147),den P "Calling" 392 (.ref 187),den P "Open" 436 (.ref 227),den P "Left" 473 (.ref 260)] 17,#[]⟩
def ob198:Ob:=⟨.none,none,.fields #[.int 1 0,.int 0 0,.ref 20,.int 5 0,.int 0 0,.ref 27,.int 7 0,.int 0 0,.ref 40,.int 13 0,.int 0 0,.ref 59,.int 35 0,.int 0 0,.ref 122,.int 45 0,.int 0 0,.ref 155,.int 58 0,.int 0 0,.ref 195,.int 71 0,.int 0 0,.ref 235],#[]⟩
def ob199:Ob:=⟨.type "type",none,.cls (.mk (sO "State") [.type "object"] [.ref 112,.type "object"] 111 (sO "State") true [] [.ref 147,.ref 187,.ref 227,.ref 260] false none false),#[none,none,some (q "State" 243),some (q "State" 251),some (.builtin "object.__new__"),some (.bool true)]⟩
def ob202(P:Pm):Ob:=⟨.type "dict",none,.dict #[den P "__module__" 400 (q "slowroad.states" 241),den P "__qualname__" 402 (q "Open" 401),den P "__firstlineno__" 404 (.int 58 403),den P "name" 411 (.ref 203),den P "wish_end" 418 (.ref 210),den P "may_put" 425 (.ref 217),den P "ended" 432 (.ref 224),den P "__static_attributes__" 433 (.ref 225)] 8,#[]⟩
def ob204:Ob:=⟨.none,none,.fields #[.int 60 0,.int 4 0,.ref 202,.int 63 0,.int 4 0,.ref 209,.int 66 0,.int 4 0,.ref 216,.int 69 0,.int 4 0,.ref 223],#[]⟩
def ob205:Ob:=⟨.type "code",none,.fields #[q "Open" 395,q "Open" 396,q "/claim/cut.py" 397,.int 58 0,.int 0 0,.int 0 0,.int 0 0,.int 0 0,.ref 193,.bool false,.int 181 0,.ref 194,.none,.none,.none,.none,.int 398 0,.int 58 0,q "/claim/cut.py" 399],#[]⟩
def ob206:Ob:=⟨.type "frame",none,.plain,#[some (.ref 195),some (.ref 3),some (.ref 192),none,some (q "slowroad.states" 241),none,some (.ref 0)]⟩
def ob209:Ob:=tp [q "self" 408]
def ob211:Ob:=⟨.none,none,.func (fm "name" "Open.name" (inClass (top 8) 0) 0 [] .none .none .none .none none .none .none 0),#[]⟩
def ob212:Ob:=⟨.type "code",none,.fields #[q "name" 405,q "Open.name" 406,q "/claim/cut.py" 407,.int 60 0,.int 1 0,.int 0 0,.int 0 0,.int 3 0,.ref 197,.bool true,.int 181 0,.ref 198,.none,.ref 199,.ref 200,.ref 201,.int 409 0,.int 60 0,q "/claim/cut.py" 410],#[]⟩
def ob213:Ob:=⟨.type "function",none,.func (fm "name" "Open.name" (inClass (top 8) 0) 3 [] .none .none .none (q "slowroad.states" 241) none (.ref 202) .none 0),#[]⟩
def ob216:Ob:=tp [q "self" 415]
def ob218:Ob:=⟨.none,none,.func (fm "wish_end" "Open.wish_end" (inClass (top 8) 1) 0 [] .none .none .none .none none .none .none 0),#[]⟩
def ob219:Ob:=⟨.type "code",none,.fields #[q "wish_end" 412,q "Open.wish_end" 413,q "/claim/cut.py" 414,.int 63 0,.int 1 0,.int 0 0,.int 0 0,.int 3 0,.ref 204,.bool true,.int 181 0,.ref 205,.none,.ref 206,.ref 207,.ref 208,.int 416 0,.int 63 0,q "/claim/cut.py" 417],#[]⟩
def ob220:Ob:=⟨.type "function",none,.func (fm "wish_end" "Open.wish_end" (inClass (top 8) 1) 3 [] .none .none .none (q "slowroad.states" 241) none (.ref 209) .none 0),#[]⟩
def ob223:Ob:=tp [q "self" 422]
def ob225:Ob:=⟨.none,none,.func (fm "may_put" "Open.may_put" (inClass (top 8) 2) 0 [] .none .none .none .none none .none .none 0),#[]⟩
def ob226:Ob:=⟨.type "code",none,.fields #[q "may_put" 419,q "Open.may_put" 420,q "/claim/cut.py" 421,.int 66 0,.int 1 0,.int 0 0,.int 0 0,.int 3 0,.ref 211,.bool true,.int 181 0,.ref 212,.none,.ref 213,.ref 214,.ref 215,.int 423 0,.int 66 0,q "/claim/cut.py" 424],#[]⟩
def ob227:Ob:=⟨.type "function",none,.func (fm "may_put" "Open.may_put" (inClass (top 8) 2) 3 [] .none .none .none (q "slowroad.states" 241) none (.ref 216) .none 0),#[]⟩
def ob230:Ob:=tp [q "self" 429]
def ob232:Ob:=⟨.none,none,.func (fm "ended" "Open.ended" (inClass (top 8) 3) 0 [] .none .none .none .none none .none .none 0),#[]⟩
def ob233:Ob:=⟨.type "code",none,.fields #[q "ended" 426,q "Open.ended" 427,q "/claim/cut.py" 428,.int 69 0,.int 1 0,.int 0 0,.int 0 0,.int 3 0,.ref 218,.bool true,.int 181 0,.ref 219,.none,.ref 220,.ref 221,.ref 222,.int 430 0,.int 69 0,q "/claim/cut.py" 431],#[]⟩
def ob234:Ob:=⟨.type "function",none,.func (fm "ended" "Open.ended" (inClass (top 8) 3) 3 [] .none .none .none (q "slowroad.states" 241) none (.ref 223) .none 0),#[]⟩
def ob236(P:Pm):Ob:=⟨.type "dict",none,.dict #[den P "__module__" 400 (q "slowroad.states" 241),den P "__firstlineno__" 404 (.int 58 403),den P "name" 411 (.ref 203),den P "wish_end" 418 (.ref 210),den P "may_put" 425 (.ref 217),den P "ended" 432 (.ref 224),den P "__static_attributes__" 433 (.ref 225),den P "__doc__" 434 .none] 2,#[]⟩
def ob237:Ob:=⟨.type "type",none,.cls (.mk (sO "Open") [.ref 112] [.ref 227,.ref 112,.type "object"] 226 (sO "Open") true [] [] false none false),#[some (.ref 190),none,some (q "Open" 393),some (q "Open" 401),some (.builtin "object.__new__"),some (.bool true)]⟩
def ob238:Ob:=⟨.type "super",none,.fields #[.ref 227,.ref 227,.ref 227],#[]⟩
def ob239:Ob:=⟨.type "builtin_function_or_method",none,.fields #[.builtin "object.__init_subclass__",.ref 227],#[]⟩
def ob242(P:Pm):Ob:=⟨.type "dict",none,.dict #[den P "__module__" 444 (q "slowroad.states" 241),den P "__qualname__" 446 (q "Left" 445),den P "__firstlineno__" 448 (.int 71 447),den P "name" 455 (.ref 243),den P "wish_end" 462 (.ref 250),den P "may_put" 469 (.ref 257),den P "__static_attributes__" 470 (.ref 258)] 7,#[]⟩
def ob244:Ob:=⟨.none,none,.fields #[.int 73 0,.int 4 0,.ref 242,.int 76 0,.int 4 0,.ref 249,.int 79 0,.int 4 0,.ref 256],#[]⟩
def ob245:Ob:=⟨.type "code",none,.fields #[q "Left" 439,q "Left" 440,q "/claim/cut.py" 441,.int 71 0,.int 0 0,.int 0 0,.int 0 0,.int 0 0,.ref 233,.bool false,.int 181 0,.ref 234,.none,.none,.none,.none,.int 442 0,.int 71 0,q "/claim/cut.py" 443],#[]⟩
def ob246:Ob:=⟨.type "frame",none,.plain,#[some (.ref 235),some (.ref 3),some (.ref 232),none,some (q "slowroad.states" 241),none,some (.ref 0)]⟩
def ob249:Ob:=tp [q "self" 452]
def ob251:Ob:=⟨.none,none,.func (fm "name" "Left.name" (inClass (top 9) 0) 0 [] .none .none .none .none none .none .none 0),#[]⟩
def ob252:Ob:=⟨.type "code",none,.fields #[q "name" 449,q "Left.name" 450,q "/claim/cut.py" 451,.int 73 0,.int 1 0,.int 0 0,.int 0 0,.int 3 0,.ref 237,.bool true,.int 181 0,.ref 238,.none,.ref 239,.ref 240,.ref 241,.int 453 0,.int 73 0,q "/claim/cut.py" 454],#[]⟩
def ob253:Ob:=⟨.type "function",none,.func (fm "name" "Left.name" (inClass (top 9) 0) 3 [] .none .none .none (q "slowroad.states" 241) none (.ref 242) .none 0),#[]⟩
def ob256:Ob:=tp [q "self" 459]
def ob258:Ob:=⟨.none,none,.func (fm "wish_end" "Left.wish_end" (inClass (top 9) 1) 0 [] .none .none .none .none none .none .none 0),#[]⟩
def ob259:Ob:=⟨.type "code",none,.fields #[q "wish_end" 456,q "Left.wish_end" 457,q "/claim/cut.py" 458,.int 76 0,.int 1 0,.int 0 0,.int 0 0,.int 3 0,.ref 244,.bool true,.int 181 0,.ref 245,.none,.ref 246,.ref 247,.ref 248,.int 460 0,.int 76 0,q "/claim/cut.py" 461],#[]⟩
def ob260:Ob:=⟨.type "function",none,.func (fm "wish_end" "Left.wish_end" (inClass (top 9) 1) 3 [] .none .none .none (q "slowroad.states" 241) none (.ref 249) .none 0),#[]⟩
def ob263:Ob:=tp [q "self" 466]
def ob265:Ob:=⟨.none,none,.func (fm "may_put" "Left.may_put" (inClass (top 9) 2) 0 [] .none .none .none .none none .none .none 0),#[]⟩
def ob266:Ob:=⟨.type "code",none,.fields #[q "may_put" 463,q "Left.may_put" 464,q "/claim/cut.py" 465,.int 79 0,.int 1 0,.int 0 0,.int 0 0,.int 3 0,.ref 251,.bool true,.int 181 0,.ref 252,.none,.ref 253,.ref 254,.ref 255,.int 467 0,.int 79 0,q "/claim/cut.py" 468],#[]⟩
def ob267:Ob:=⟨.type "function",none,.func (fm "may_put" "Left.may_put" (inClass (top 9) 2) 3 [] .none .none .none (q "slowroad.states" 241) none (.ref 256) .none 0),#[]⟩
def ob269(P:Pm):Ob:=⟨.type "dict",none,.dict #[den P "__module__" 444 (q "slowroad.states" 241),den P "__firstlineno__" 448 (.int 71 447),den P "name" 455 (.ref 243),den P "wish_end" 462 (.ref 250),den P "may_put" 469 (.ref 257),den P "__static_attributes__" 470 (.ref 258),den P "__doc__" 471 .none] 2,#[]⟩
def ob270:Ob:=⟨.type "type",none,.cls (.mk (sO "Left") [.ref 112] [.ref 260,.ref 112,.type "object"] 259 (sO "Left") true [] [] false none false),#[some (.ref 230),none,some (q "Left" 437),some (q "Left" 445),some (.builtin "object.__new__"),some (.bool true)]⟩
def ob271:Ob:=⟨.type "super",none,.fields #[.ref 260,.ref 260,.ref 260],#[]⟩
def ob272:Ob:=⟨.type "builtin_function_or_method",none,.fields #[.builtin "object.__init_subclass__",.ref 260],#[]⟩
def ob273(P:Pm):Ob:=⟨.type "dict",none,.dict #[den P "__name__" 165 (q "slowroad.states" 241),den P "__doc__" 166 .none,den P "__package__" 167 .none,den P "__loader__" 168 (.builtin "__main__.__loader__#opaque"),den P "__spec__" 169 .none,den P "__annotations__" 170 (.ref 6),den P "__builtins__" 171 (.ref 4),den P "__file__" 173 (q "/claim/cut.py" 172),den P "__cached__" 174 .none,den P "_wall" 193 (.ref 21),den P "RoadError" 213 (.ref 31),den P "NotNow" 240 (.ref 51),den P "State" 311 (.ref 112),den P "Shut" 348 (.ref 147),den P "Calling" 392 (.ref 187),den P "Open" 436 (.ref 227),den P "Left" 473 (.ref 260),den P "Leaving" 510 (.ref 293),den P "Waiting" 540 (.ref 319)] 19,#[]⟩
def ob274:Ob:=⟨.none,none,.fields #[.int 1 0,.int 0 0,.ref 20,.int 5 0,.int 0 0,.ref 27,.int 7 0,.int 0 0,.ref 40,.int 13 0,.int 0 0,.ref 59,.int 35 0,.int 0 0,.ref 122,.int 45 0,.int 0 0,.ref 155,.int 58 0,.int 0 0,.ref 195,.int 71 0,.int 0 0,.ref 235,.int 81 0,.int 0 0,.ref 268,.int 91 0,.int 0 0,.ref 301],#[]⟩
def ob275:Ob:=⟨.type "type",none,.cls (.mk (sO "State") [.type "object"] [.ref 112,.type "object"] 111 (sO "State") true [] [.ref 147,.ref 187,.ref 227,.ref 260,.ref 293,.ref 319] false none false),#[none,none,some (q "State" 243),some (q "State" 251),some (.builtin "object.__new__"),some (.bool true)]⟩
def ob278(P:Pm):Ob:=⟨.type "dict",none,.dict #[den P "__module__" 481 (q "slowroad.states" 241),den P "__qualname__" 483 (q "Leaving" 482),den P "__firstlineno__" 485 (.int 81 484),den P "name" 492 (.ref 276),den P "ended" 499 (.ref 283),den P "answered" 506 (.ref 290),den P "__static_attributes__" 507 (.ref 291)] 7,#[]⟩
def ob280:Ob:=⟨.none,none,.fields #[.int 83 0,.int 4 0,.ref 275,.int 86 0,.int 4 0,.ref 282,.int 89 0,.int 4 0,.ref 289],#[]⟩
def ob281:Ob:=⟨.type "code",none,.fields #[q "Leaving" 476,q "Leaving" 477,q "/claim/cut.py" 478,.int 81 0,.int 0 0,.int 0 0,.int 0 0,.int 0 0,.ref 266,.bool false,.int 181 0,.ref 267,.none,.none,.none,.none,.int 479 0,.int 81 0,q "/claim/cut.py" 480],#[]⟩
def ob282:Ob:=⟨.type "frame",none,.plain,#[some (.ref 268),some (.ref 3),some (.ref 265),none,some (q "slowroad.states" 241),none,some (.ref 0)]⟩
def ob285:Ob:=tp [q "self" 489]
def ob287:Ob:=⟨.none,none,.func (fm "name" "Leaving.name" (inClass (top 10) 0) 0 [] .none .none .none .none none .none .none 0),#[]⟩
def ob288:Ob:=⟨.type "code",none,.fields #[q "name" 486,q "Leaving.name" 487,q "/claim/cut.py" 488,.int 83 0,.int 1 0,.int 0 0,.int 0 0,.int 3 0,.ref 270,.bool true,.int 181 0,.ref 271,.none,.ref 272,.ref 273,.ref 274,.int 490 0,.int 83 0,q "/claim/cut.py" 491],#[]⟩
def ob289:Ob:=⟨.type "function",none,.func (fm "name" "Leaving.name" (inClass (top 10) 0) 3 [] .none .none .none (q "slowroad.states" 241) none (.ref 275) .none 0),#[]⟩
def ob292:Ob:=tp [q "self" 496]
def ob294:Ob:=⟨.none,none,.func (fm "ended" "Leaving.ended" (inClass (top 10) 1) 0 [] .none .none .none .none none .none .none 0),#[]⟩
def ob295:Ob:=⟨.type "code",none,.fields #[q "ended" 493,q "Leaving.ended" 494,q "/claim/cut.py" 495,.int 86 0,.int 1 0,.int 0 0,.int 0 0,.int 3 0,.ref 277,.bool true,.int 181 0,.ref 278,.none,.ref 279,.ref 280,.ref 281,.int 497 0,.int 86 0,q "/claim/cut.py" 498],#[]⟩
def ob296:Ob:=⟨.type "function",none,.func (fm "ended" "Leaving.ended" (inClass (top 10) 1) 3 [] .none .none .none (q "slowroad.states" 241) none (.ref 282) .none 0),#[]⟩
def ob299:Ob:=tp [q "self" 503]
def ob301:Ob:=⟨.none,none,.func (fm "answered" "Leaving.answered" (inClass (top 10) 2) 0 [] .none .none .none .none none .none .none 0),#[]⟩
def ob302:Ob:=⟨.type "code",none,.fields #[q "answered" 500,q "Leaving.answered" 501,q "/claim/cut.py" 502,.int 89 0,.int 1 0,.int 0 0,.int 0 0,.int 3 0,.ref 284,.bool true,.int 181 0,.ref 285,.none,.ref 286,.ref 287,.ref 288,.int 504 0,.int 89 0,q "/claim/cut.py" 505],#[]⟩
def ob303:Ob:=⟨.type "function",none,.func (fm "answered" "Leaving.answered" (inClass (top 10) 2) 3 [] .none .none .none (q "slowroad.states" 241) none (.ref 289) .none 0),#[]⟩
def ob305(P:Pm):Ob:=⟨.type "dict",none,.dict #[den P "__module__" 481 (q "slowroad.states" 241),den P "__firstlineno__" 485 (.int 81 484),den P "name" 492 (.ref 276),den P "ended" 499 (.ref 283),den P "answered" 506 (.ref 290),den P "__static_attributes__" 507 (.ref 291),den P "__doc__" 508 .none] 2,#[]⟩
def ob306:Ob:=⟨.type "type",none,.cls (.mk (sO "Leaving") [.ref 112] [.ref 293,.ref 112,.type "object"] 292 (sO "Leaving") true [] [] false none false),#[some (.ref 263),none,some (q "Leaving" 474),some (q "Leaving" 482),some (.builtin "object.__new__"),some (.bool true)]⟩
def ob307:Ob:=⟨.type "super",none,.fields #[.ref 293,.ref 293,.ref 293],#[]⟩
def ob308:Ob:=⟨.type "builtin_function_or_method",none,.fields #[.builtin "object.__init_subclass__",.ref 293],#[]⟩
def ob311(P:Pm):Ob:=⟨.type "dict",none,.dict #[den P "__module__" 518 (q "slowroad.states" 241),den P "__qualname__" 520 (q "Waiting" 519),den P "__firstlineno__" 522 (.int 91 521),den P "name" 529 (.ref 309),den P "ended" 536 (.ref 316),den P "__static_attributes__" 537 (.ref 317)] 6,#[]⟩
def ob313:Ob:=⟨.none,none,.fields #[.int 93 0,.int 4 0,.ref 308,.int 96 0,.int 4 0,.ref 315],#[]⟩
def ob314:Ob:=⟨.type "code",none,.fields #[q "Waiting" 513,q "Waiting" 514,q "/claim/cut.py" 515,.int 91 0,.int 0 0,.int 0 0,.int 0 0,.int 0 0,.ref 299,.bool false,.int 181 0,.ref 300,.none,.none,.none,.none,.int 516 0,.int 91 0,q "/claim/cut.py" 517],#[]⟩
def ob315:Ob:=⟨.type "frame",none,.plain,#[some (.ref 301),some (.ref 3),some (.ref 298),none,some (q "slowroad.states" 241),none,some (.ref 0)]⟩
def ob318:Ob:=tp [q "self" 526]
def ob320:Ob:=⟨.none,none,.func (fm "name" "Waiting.name" (inClass (top 11) 0) 0 [] .none .none .none .none none .none .none 0),#[]⟩
def ob321:Ob:=⟨.type "code",none,.fields #[q "name" 523,q "Waiting.name" 524,q "/claim/cut.py" 525,.int 93 0,.int 1 0,.int 0 0,.int 0 0,.int 3 0,.ref 303,.bool true,.int 181 0,.ref 304,.none,.ref 305,.ref 306,.ref 307,.int 527 0,.int 93 0,q "/claim/cut.py" 528],#[]⟩
def ob322:Ob:=⟨.type "function",none,.func (fm "name" "Waiting.name" (inClass (top 11) 0) 3 [] .none .none .none (q "slowroad.states" 241) none (.ref 308) .none 0),#[]⟩
def ob325:Ob:=tp [q "self" 533]
def ob327:Ob:=⟨.none,none,.func (fm "ended" "Waiting.ended" (inClass (top 11) 1) 0 [] .none .none .none .none none .none .none 0),#[]⟩
def ob328:Ob:=⟨.type "code",none,.fields #[q "ended" 530,q "Waiting.ended" 531,q "/claim/cut.py" 532,.int 96 0,.int 1 0,.int 0 0,.int 0 0,.int 3 0,.ref 310,.bool true,.int 181 0,.ref 311,.none,.ref 312,.ref 313,.ref 314,.int 534 0,.int 96 0,q "/claim/cut.py" 535],#[]⟩
def ob329:Ob:=⟨.type "function",none,.func (fm "ended" "Waiting.ended" (inClass (top 11) 1) 3 [] .none .none .none (q "slowroad.states" 241) none (.ref 315) .none 0),#[]⟩
def ob331(P:Pm):Ob:=⟨.type "dict",none,.dict #[den P "__module__" 518 (q "slowroad.states" 241),den P "__firstlineno__" 522 (.int 91 521),den P "name" 529 (.ref 309),den P "ended" 536 (.ref 316),den P "__static_attributes__" 537 (.ref 317),den P "__doc__" 538 .none] 2,#[]⟩
def ob332:Ob:=⟨.type "type",none,.cls (.mk (sO "Waiting") [.ref 112] [.ref 319,.ref 112,.type "object"] 318 (sO "Waiting") true [] [] false none false),#[some (.ref 296),none,some (q "Waiting" 511),some (q "Waiting" 519),some (.builtin "object.__new__"),some (.bool true)]⟩
def ob333:Ob:=⟨.type "super",none,.fields #[.ref 319,.ref 319,.ref 319],#[]⟩
def ob334:Ob:=⟨.type "builtin_function_or_method",none,.fields #[.builtin "object.__init_subclass__",.ref 319],#[]⟩
def ob335(P:Pm):Ob:=⟨.type "dict",none,.dict #[den P "__name__" 165 (q "law_slowroad_k62_whole_talks_of_states" 571),den P "__doc__" 166 .none,den P "__package__" 167 .none,den P "__loader__" 168 (.builtin "__main__.__loader__#opaque"),den P "__spec__" 169 .none,den P "__annotations__" 170 (.ref 6),den P "__builtins__" 171 (.ref 4),den P "__file__" 173 (q "/claim/cut.py" 172),den P "__cached__" 174 .none,den P "_wall" 193 (.ref 21),den P "RoadError" 213 (.ref 31),den P "NotNow" 240 (.ref 51),den P "State" 311 (.ref 112),den P "Shut" 348 (.ref 147),den P "Calling" 392 (.ref 187),den P "Open" 436 (.ref 227),den P "Left" 473 (.ref 260),den P "Leaving" 510 (.ref 293),den P "Waiting" 540 (.ref 319),den P "Closing" 570 (.ref 345),den P "_law_cell_at" 580 (.ref 354),den P "_law_table" 593 (.ref 361),den P "_law_count" 599 (.ref 366),den P "_law_name" 616 (.ref 373),den P "_law_wish" 630 (.ref 380),den P "_law_hear" 641 (.ref 387),den P "_law_take" 655 (.ref 394),den P "_law_right" 666 (.ref 401),den P "_law_calm" 678 (.ref 408),den P "law" 694 (.ref 415)] 30,#[]⟩
def ob336:Ob:=⟨.none,none,.fields #[.int 1 0,.int 0 0,.ref 20,.int 5 0,.int 0 0,.ref 27,.int 7 0,.int 0 0,.ref 40,.int 13 0,.int 0 0,.ref 59,.int 35 0,.int 0 0,.ref 122,.int 45 0,.int 0 0,.ref 155,.int 58 0,.int 0 0,.ref 195,.int 71 0,.int 0 0,.ref 235,.int 81 0,.int 0 0,.ref 268,.int 91 0,.int 0 0,.ref 301,.int 98 0,.int 0 0,.ref 327,.int 106 0,.int 0 0,.ref 353,.int 110 0,.int 0 0,.ref 360,.int 127 0,.int 0 0,.ref 365,.int 129 0,.int 0 0,.ref 372,.int 138 0,.int 0 0,.ref 379,.int 152 0,.int 0 0,.ref 386,.int 157 0,.int 0 0,.ref 393,.int 170 0,.int 0 0,.ref 400,.int 175 0,.int 0 0,.ref 407,.int 186 0,.int 0 0,.ref 414],#[]⟩
def ob337:Ob:=⟨.type "type",none,.cls (.mk (sO "State") [.type "object"] [.ref 112,.type "object"] 111 (sO "State") true [] [.ref 147,.ref 187,.ref 227,.ref 260,.ref 293,.ref 319,.ref 345] false none false),#[none,none,some (q "State" 243),some (q "State" 251),some (.builtin "object.__new__"),some (.bool true)]⟩
def ob340(P:Pm):Ob:=⟨.type "dict",none,.dict #[den P "__module__" 548 (q "slowroad.states" 241),den P "__qualname__" 550 (q "Closing" 549),den P "__firstlineno__" 552 (.int 98 551),den P "name" 559 (.ref 335),den P "answered" 566 (.ref 342),den P "__static_attributes__" 567 (.ref 343)] 6,#[]⟩
def ob342:Ob:=⟨.none,none,.fields #[.int 100 0,.int 4 0,.ref 334,.int 103 0,.int 4 0,.ref 341],#[]⟩
def ob343:Ob:=⟨.type "code",none,.fields #[q "Closing" 543,q "Closing" 544,q "/claim/cut.py" 545,.int 98 0,.int 0 0,.int 0 0,.int 0 0,.int 0 0,.ref 325,.bool false,.int 181 0,.ref 326,.none,.none,.none,.none,.int 546 0,.int 98 0,q "/claim/cut.py" 547],#[]⟩
def ob344:Ob:=⟨.type "frame",none,.plain,#[some (.ref 327),some (.ref 3),some (.ref 324),none,some (q "slowroad.states" 241),none,some (.ref 0)]⟩
def ob347:Ob:=tp [q "self" 556]
def ob349:Ob:=⟨.none,none,.func (fm "name" "Closing.name" (inClass (top 12) 0) 0 [] .none .none .none .none none .none .none 0),#[]⟩
def ob350:Ob:=⟨.type "code",none,.fields #[q "name" 553,q "Closing.name" 554,q "/claim/cut.py" 555,.int 100 0,.int 1 0,.int 0 0,.int 0 0,.int 3 0,.ref 329,.bool true,.int 181 0,.ref 330,.none,.ref 331,.ref 332,.ref 333,.int 557 0,.int 100 0,q "/claim/cut.py" 558],#[]⟩
def ob351:Ob:=⟨.type "function",none,.func (fm "name" "Closing.name" (inClass (top 12) 0) 3 [] .none .none .none (q "slowroad.states" 241) none (.ref 334) .none 0),#[]⟩
def ob354:Ob:=tp [q "self" 563]
def ob356:Ob:=⟨.none,none,.func (fm "answered" "Closing.answered" (inClass (top 12) 1) 0 [] .none .none .none .none none .none .none 0),#[]⟩
def ob357:Ob:=⟨.type "code",none,.fields #[q "answered" 560,q "Closing.answered" 561,q "/claim/cut.py" 562,.int 103 0,.int 1 0,.int 0 0,.int 0 0,.int 3 0,.ref 336,.bool true,.int 181 0,.ref 337,.none,.ref 338,.ref 339,.ref 340,.int 564 0,.int 103 0,q "/claim/cut.py" 565],#[]⟩
def ob358:Ob:=⟨.type "function",none,.func (fm "answered" "Closing.answered" (inClass (top 12) 1) 3 [] .none .none .none (q "slowroad.states" 241) none (.ref 341) .none 0),#[]⟩
def ob360(P:Pm):Ob:=⟨.type "dict",none,.dict #[den P "__module__" 548 (q "slowroad.states" 241),den P "__firstlineno__" 552 (.int 98 551),den P "name" 559 (.ref 335),den P "answered" 566 (.ref 342),den P "__static_attributes__" 567 (.ref 343),den P "__doc__" 568 .none] 2,#[]⟩
def ob361:Ob:=⟨.type "type",none,.cls (.mk (sO "Closing") [.ref 112] [.ref 345,.ref 112,.type "object"] 344 (sO "Closing") true [] [] false none false),#[some (.ref 322),none,some (q "Closing" 541),some (q "Closing" 549),some (.builtin "object.__new__"),some (.bool true)]⟩
def ob362:Ob:=⟨.type "super",none,.fields #[.ref 345,.ref 345,.ref 345],#[]⟩
def ob363:Ob:=⟨.type "builtin_function_or_method",none,.fields #[.builtin "object.__init_subclass__",.ref 345],#[]⟩
def ob366:Ob:=tp [q "_law_script" 576,q "_law_k" 577]
def ob368:Ob:=⟨.none,none,.func (fm "_law_cell_at" "_law_cell_at" (top 14) 0 [] .none .none .none .none none .none .none 0),#[]⟩
def ob369:Ob:=⟨.type "code",none,.fields #[q "_law_cell_at" 573,q "_law_cell_at" 574,q "/claim/cut.py" 575,.int 106 0,.int 2 0,.int 0 0,.int 0 0,.int 3 0,.ref 348,.bool true,.int 181 0,.ref 349,.none,.ref 350,.ref 351,.ref 352,.int 578 0,.int 106 0,q "/claim/cut.py" 579],#[]⟩
def ob370:Ob:=⟨.type "function",none,.func (fm "_law_cell_at" "_law_cell_at" (top 14) 3 [] .none .none .none (q "law_slowroad_k62_whole_talks_of_states" 571) none (.ref 353) .none 0),#[]⟩
def ob373:Ob:=tp [q "_law_talks" 584,q "_law_begins" 585,q "_law_ends" 586,q "_law_heard" 587,q "_law_others" 588,q "_law_other_ends" 589,q "_law_row" 590]
def ob375:Ob:=⟨.none,none,.func (fm "_law_table" "_law_table" (top 15) 0 [] .none .none .none .none none .none .none 0),#[]⟩
def ob376:Ob:=⟨.type "code",none,.fields #[q "_law_table" 581,q "_law_table" 582,q "/claim/cut.py" 583,.int 110 0,.int 6 0,.int 0 0,.int 0 0,.int 3 0,.ref 355,.bool true,.int 181 0,.ref 356,.none,.ref 357,.ref 358,.ref 359,.int 591 0,.int 110 0,q "/claim/cut.py" 592],#[]⟩
def ob377:Ob:=⟨.type "function",none,.func (fm "_law_table" "_law_table" (top 15) 3 [] .none .none .none (q "law_slowroad_k62_whole_talks_of_states" 571) none (.ref 360) .none 0),#[]⟩
def ob380:Ob:=⟨.none,none,.func (fm "_law_count" "_law_count" (top 16) 0 [] .none .none .none .none none .none .none 0),#[]⟩
def ob381:Ob:=⟨.type "code",none,.fields #[q "_law_count" 594,q "_law_count" 595,q "/claim/cut.py" 596,.int 127 0,.int 2 0,.int 0 0,.int 0 0,.int 3 0,.ref 362,.bool true,.int 181 0,.ref 363,.none,.none,.none,.ref 364,.int 597 0,.int 127 0,q "/claim/cut.py" 598],#[]⟩
def ob382:Ob:=⟨.type "function",none,.func (fm "_law_count" "_law_count" (top 16) 3 [] .none .none .none (q "law_slowroad_k62_whole_talks_of_states" 571) none (.ref 365) .none 0),#[]⟩
def ob385:Ob:=tp [q "_law_side" 603,q "_law_put" 604,q "_law_taken" 605,q "_law_known" 606,q "_law_own" 607,q "_law_other" 608,q "_law_heard" 609,q "_law_other_ends" 610,q "_law_talks" 611,q "_law_begins" 612,q "_law_others" 613]
def ob387:Ob:=⟨.none,none,.func (fm "_law_name" "_law_name" (top 17) 0 [] .none .none .none .none none .none .none 0),#[]⟩
def ob388:Ob:=⟨.type "code",none,.fields #[q "_law_name" 600,q "_law_name" 601,q "/claim/cut.py" 602,.int 129 0,.int 4 0,.int 0 0,.int 0 0,.int 3 0,.ref 367,.bool true,.int 181 0,.ref 368,.none,.ref 369,.ref 370,.ref 371,.int 614 0,.int 129 0,q "/claim/cut.py" 615],#[]⟩
def ob389:Ob:=⟨.type "function",none,.func (fm "_law_name" "_law_name" (top 17) 3 [] .none .none .none (q "law_slowroad_k62_whole_talks_of_states" 571) none (.ref 372) .none 0),#[]⟩
def ob392:Ob:=tp [q "_law_states" 620,q "_law_side" 621,q "_law_word" 622,q "_law_put" 623,q "_law_taken" 624,q "_law_name_here" 625,q "_law_may" 626,q "_law_refused" 627]
def ob394:Ob:=⟨.none,none,.func (fm "_law_wish" "_law_wish" (top 18) 0 [] .none .none .none .none none .none .none 0),#[]⟩
def ob395:Ob:=⟨.type "code",none,.fields #[q "_law_wish" 617,q "_law_wish" 618,q "/claim/cut.py" 619,.int 138 0,.int 5 0,.int 0 0,.int 0 0,.int 3 0,.ref 374,.bool true,.int 181 0,.ref 375,.none,.ref 376,.ref 377,.ref 378,.int 628 0,.int 138 0,q "/claim/cut.py" 629],#[]⟩
def ob396:Ob:=⟨.type "function",none,.func (fm "_law_wish" "_law_wish" (top 18) 3 [] .none .none .none (q "law_slowroad_k62_whole_talks_of_states" 571) none (.ref 379) .none 0),#[]⟩
def ob399:Ob:=tp [q "_law_states" 634,q "_law_side" 635,q "_law_put" 636,q "_law_known" 637,q "_law_many" 638]
def ob401:Ob:=⟨.none,none,.func (fm "_law_hear" "_law_hear" (top 19) 0 [] .none .none .none .none none .none .none 0),#[]⟩
def ob402:Ob:=⟨.type "code",none,.fields #[q "_law_hear" 631,q "_law_hear" 632,q "/claim/cut.py" 633,.int 152 0,.int 5 0,.int 0 0,.int 0 0,.int 3 0,.ref 381,.bool true,.int 181 0,.ref 382,.none,.ref 383,.ref 384,.ref 385,.int 639 0,.int 152 0,q "/claim/cut.py" 640],#[]⟩
def ob403:Ob:=⟨.type "function",none,.func (fm "_law_hear" "_law_hear" (top 19) 3 [] .none .none .none (q "law_slowroad_k62_whole_talks_of_states" 571) none (.ref 386) .none 0),#[]⟩
def ob406:Ob:=tp [q "_law_states" 645,q "_law_side" 646,q "_law_put" 647,q "_law_taken" 648,q "_law_known" 649,q "_law_other" 650,q "_law_word" 651,q "_law_heard" 652]
def ob408:Ob:=⟨.none,none,.func (fm "_law_take" "_law_take" (top 20) 0 [] .none .none .none .none none .none .none 0),#[]⟩
def ob409:Ob:=⟨.type "code",none,.fields #[q "_law_take" 642,q "_law_take" 643,q "/claim/cut.py" 644,.int 157 0,.int 5 0,.int 0 0,.int 0 0,.int 3 0,.ref 388,.bool true,.int 181 0,.ref 389,.none,.ref 390,.ref 391,.ref 392,.int 653 0,.int 157 0,q "/claim/cut.py" 654],#[]⟩
def ob410:Ob:=⟨.type "function",none,.func (fm "_law_take" "_law_take" (top 20) 3 [] .none .none .none (q "law_slowroad_k62_whole_talks_of_states" 571) none (.ref 393) .none 0),#[]⟩
def ob413:Ob:=tp [q "_law_states" 659,q "_law_put" 660,q "_law_taken" 661,q "_law_known" 662,q "_law_side" 663]
def ob415:Ob:=⟨.none,none,.func (fm "_law_right" "_law_right" (top 21) 0 [] .none .none .none .none none .none .none 0),#[]⟩
def ob416:Ob:=⟨.type "code",none,.fields #[q "_law_right" 656,q "_law_right" 657,q "/claim/cut.py" 658,.int 170 0,.int 4 0,.int 0 0,.int 0 0,.int 3 0,.ref 395,.bool true,.int 181 0,.ref 396,.none,.ref 397,.ref 398,.ref 399,.int 664 0,.int 170 0,q "/claim/cut.py" 665],#[]⟩
def ob417:Ob:=⟨.type "function",none,.func (fm "_law_right" "_law_right" (top 21) 3 [] .none .none .none (q "law_slowroad_k62_whole_talks_of_states" 571) none (.ref 400) .none 0),#[]⟩
def ob420:Ob:=tp [q "_law_states" 670,q "_law_put" 671,q "_law_taken" 672,q "_law_known" 673,q "_law_k" 674,q "_law_side" 675]
def ob422:Ob:=⟨.none,none,.func (fm "_law_calm" "_law_calm" (top 22) 0 [] .none .none .none .none none .none .none 0),#[]⟩
def ob423:Ob:=⟨.type "code",none,.fields #[q "_law_calm" 667,q "_law_calm" 668,q "/claim/cut.py" 669,.int 175 0,.int 4 0,.int 0 0,.int 0 0,.int 3 0,.ref 402,.bool true,.int 181 0,.ref 403,.none,.ref 404,.ref 405,.ref 406,.int 676 0,.int 175 0,q "/claim/cut.py" 677],#[]⟩
def ob424:Ob:=⟨.type "function",none,.func (fm "_law_calm" "_law_calm" (top 22) 3 [] .none .none .none (q "law_slowroad_k62_whole_talks_of_states" 571) none (.ref 407) .none 0),#[]⟩
def ob427:Ob:=tp [q "_law_script" 682,q "_law_states" 683,q "_law_put" 684,q "_law_taken" 685,q "_law_known" 686,q "_law_cell" 687,q "_law_side" 688,q "_law_way" 689,q "_law_fine" 690,q "_law_more" 691]
def ob429:Ob:=⟨.none,none,.func (fm "law" "law" (top 23) 0 [] .none .none .none .none none .none .none 0),#[]⟩
def ob430:Ob:=⟨.type "code",none,.fields #[q "law" 679,q "law" 680,q "/claim/cut.py" 681,.int 186 0,.int 1 0,.int 0 0,.int 0 0,.int 3 0,.ref 409,.bool true,.int 181 0,.ref 410,.none,.ref 411,.ref 412,.ref 413,.int 692 0,.int 186 0,q "/claim/cut.py" 693],#[]⟩
def ob431:Ob:=⟨.type "function",none,.func (fm "law" "law" (top 23) 3 [] .none .none .none (q "law_slowroad_k62_whole_talks_of_states" 571) none (.ref 414) .none 0),#[]⟩
def hdK : PySem.Params → PySem.W.Frag := fun P => (nat_lit 2,PySem.W.boot_o_2 P)::(nat_lit 3,ob335 P)::(nat_lit 15,ob11)::(nat_lit 17,ob19)::(nat_lit 18,ob11)::(nat_lit 20,ob22)::(nat_lit 21,ob23)::(nat_lit 22,ob24)::(nat_lit 29,ob11)::(nat_lit 30,ob32 P)::(nat_lit 31,ob33)::(nat_lit 32,ob34)::(nat_lit 35,ob37)::(nat_lit 42,ob11)::(nat_lit 44,ob46)::(nat_lit 45,ob11)::(nat_lit 47,ob49)::(nat_lit 48,ob50)::(nat_lit 49,ob51)::(nat_lit 50,ob52 P)::(nat_lit 51,ob53)::(nat_lit 61,ob11)::(nat_lit 63,ob67)::(nat_lit 64,ob11)::(nat_lit 66,ob70)::(nat_lit 67,ob71)::(nat_lit 68,ob11)::(nat_lit 70,ob74)::(nat_lit 71,ob11)::(nat_lit 73,ob77)::(nat_lit 74,ob78)::(nat_lit 75,ob11)::(nat_lit 77,ob81)::(nat_lit 78,ob11)::(nat_lit 80,ob84)::(nat_lit 81,ob85)::(nat_lit 82,ob11)::(nat_lit 84,ob88)::(nat_lit 85,ob11)::(nat_lit 87,ob91)::(nat_lit 88,ob92)::(nat_lit 89,ob11)::(nat_lit 91,ob95)::(nat_lit 92,ob11)::(nat_lit 94,ob98)::(nat_lit 95,ob99)::(nat_lit 96,ob11)::(nat_lit 98,ob102)::(nat_lit 99,ob11)::(nat_lit 101,ob105)::(nat_lit 102,ob106)::(nat_lit 103,ob11)::(nat_lit 105,ob109)::(nat_lit 106,ob11)::(nat_lit 108,ob112)::(nat_lit 109,ob113)::(nat_lit 110,ob11)::(nat_lit 111,ob115 P)::(nat_lit 112,ob337)::(nat_lit 113,ob117)::(nat_lit 114,ob118)::(nat_lit 117,ob124)::(nat_lit 124,ob11)::(nat_lit 126,ob133)::(nat_lit 127,ob11)::(nat_lit 129,ob136)::(nat_lit 130,ob137)::(nat_lit 131,ob11)::(nat_lit 133,ob140)::(nat_lit 134,ob11)::(nat_lit 136,ob143)::(nat_lit 137,ob144)::(nat_lit 138,ob11)::(nat_lit 140,ob147)::(nat_lit 141,ob11)::(nat_lit 143,ob150)::(nat_lit 144,ob151)::(nat_lit 145,ob11)::(nat_lit 146,ob153 P)::(nat_lit 147,ob154)::(nat_lit 150,ob124)::(nat_lit 157,ob11)::(nat_lit 159,ob166)::(nat_lit 160,ob11)::(nat_lit 162,ob169)::(nat_lit 163,ob170)::(nat_lit 164,ob11)::(nat_lit 166,ob173)::(nat_lit 167,ob11)::(nat_lit 169,ob176)::(nat_lit 170,ob177)::(nat_lit 171,ob11)::(nat_lit 173,ob180)::(nat_lit 174,ob11)::(nat_lit 176,ob183)::(nat_lit 177,ob184)::(nat_lit 178,ob11)::(nat_lit 180,ob187)::(nat_lit 181,ob11)::(nat_lit 183,ob190)::(nat_lit 184,ob191)::(nat_lit 185,ob11)::(nat_lit 186,ob193 P)::(nat_lit 187,ob194)::(nat_lit 190,ob124)::(nat_lit 197,ob11)::(nat_lit 199,ob209)::(nat_lit 200,ob11)::(nat_lit 202,ob212)::(nat_lit 203,ob213)::(nat_lit 204,ob11)::(nat_lit 206,ob216)::(nat_lit 207,ob11)::(nat_lit 209,ob219)::(nat_lit 210,ob220)::(nat_lit 211,ob11)::(nat_lit 213,ob223)::(nat_lit 214,ob11)::(nat_lit 216,ob226)::(nat_lit 217,ob227)::(nat_lit 218,ob11)::(nat_lit 220,ob230)::(nat_lit 221,ob11)::(nat_lit 223,ob233)::(nat_lit 224,ob234)::(nat_lit 225,ob11)::(nat_lit 226,ob236 P)::(nat_lit 227,ob237)::(nat_lit 230,ob124)::(nat_lit 237,ob11)::(nat_lit 239,ob249)::(nat_lit 240,ob11)::(nat_lit 242,ob252)::(nat_lit 243,ob253)::(nat_lit 244,ob11)::(nat_lit 246,ob256)::(nat_lit 247,ob11)::(nat_lit 249,ob259)::(nat_lit 250,ob260)::(nat_lit 251,ob11)::(nat_lit 253,ob263)::(nat_lit 254,ob11)::(nat_lit 256,ob266)::(nat_lit 257,ob267)::(nat_lit 258,ob11)::(nat_lit 259,ob269 P)::(nat_lit 260,ob270)::(nat_lit 263,ob124)::(nat_lit 270,ob11)::(nat_lit 272,ob285)::(nat_lit 273,ob11)::(nat_lit 275,ob288)::(nat_lit 276,ob289)::(nat_lit 277,ob11)::(nat_lit 279,ob292)::(nat_lit 280,ob11)::(nat_lit 282,ob295)::(nat_lit 283,ob296)::(nat_lit 284,ob11)::(nat_lit 286,ob299)::(nat_lit 287,ob11)::(nat_lit 289,ob302)::(nat_lit 290,ob303)::(nat_lit 291,ob11)::(nat_lit 292,ob305 P)::(nat_lit 293,ob306)::(nat_lit 296,ob124)::(nat_lit 303,ob11)::(nat_lit 305,ob318)::(nat_lit 306,ob11)::(nat_lit 308,ob321)::(nat_lit 309,ob322)::(nat_lit 310,ob11)::(nat_lit 312,ob325)::(nat_lit 313,ob11)::(nat_lit 315,ob328)::(nat_lit 316,ob329)::(nat_lit 317,ob11)::(nat_lit 318,ob331 P)::(nat_lit 319,ob332)::(nat_lit 322,ob124)::(nat_lit 329,ob11)::(nat_lit 331,ob347)::(nat_lit 332,ob11)::(nat_lit 334,ob350)::(nat_lit 335,ob351)::(nat_lit 336,ob11)::(nat_lit 338,ob354)::(nat_lit 339,ob11)::(nat_lit 341,ob357)::(nat_lit 342,ob358)::(nat_lit 343,ob11)::(nat_lit 344,ob360 P)::(nat_lit 345,ob361)::(nat_lit 348,ob11)::(nat_lit 350,ob366)::(nat_lit 351,ob11)::(nat_lit 353,ob369)::(nat_lit 354,ob370)::(nat_lit 355,ob11)::(nat_lit 357,ob373)::(nat_lit 358,ob11)::(nat_lit 360,ob376)::(nat_lit 361,ob377)::(nat_lit 362,ob11)::(nat_lit 365,ob381)::(nat_lit 366,ob382)::(nat_lit 367,ob11)::(nat_lit 369,ob385)::(nat_lit 370,ob11)::(nat_lit 372,ob388)::(nat_lit 373,ob389)::(nat_lit 374,ob11)::(nat_lit 376,ob392)::(nat_lit 377,ob11)::(nat_lit 379,ob395)::(nat_lit 380,ob396)::(nat_lit 381,ob11)::(nat_lit 383,ob399)::(nat_lit 384,ob11)::(nat_lit 386,ob402)::(nat_lit 387,ob403)::(nat_lit 388,ob11)::(nat_lit 390,ob406)::(nat_lit 391,ob11)::(nat_lit 393,ob409)::(nat_lit 394,ob410)::(nat_lit 395,ob11)::(nat_lit 397,ob413)::(nat_lit 398,ob11)::(nat_lit 400,ob416)::(nat_lit 401,ob417)::(nat_lit 402,ob11)::(nat_lit 404,ob420)::(nat_lit 405,ob11)::(nat_lit 407,ob423)::(nat_lit 408,ob424)::(nat_lit 409,ob11)::(nat_lit 411,ob427)::(nat_lit 412,ob11)::(nat_lit 414,ob430)::(nat_lit 415,ob431)::[]
def hdView : PySem.Program := { PySem.Challenge.pw_slowroad_k62_whole_talks_of_states with main := { PySem.Challenge.pw_slowroad_k62_whole_talks_of_states.main with body := [top 0, top 2, top 3, top 5, top 6, top 7, top 8, top 9, top 10, top 11, top 12, top 14, top 15, top 16, top 17, top 18, top 19, top 20, top 21, top 22, top 23] } }
def hdAdr : List PySem.Addr := [2, 3, 15, 17, 18, 20, 21, 22, 29, 30, 31, 32, 35, 42, 44, 45, 47, 48, 49, 50, 51, 61, 63, 64, 66, 67, 68, 70, 71, 73, 74, 75, 77, 78, 80, 81, 82, 84, 85, 87, 88, 89, 91, 92, 94, 95, 96, 98, 99, 101, 102, 103, 105, 106, 108, 109, 110, 111, 112, 113, 114, 117, 124, 126, 127, 129, 130, 131, 133, 134, 136, 137, 138, 140, 141, 143, 144, 145, 146, 147, 150, 157, 159, 160, 162, 163, 164, 166, 167, 169, 170, 171, 173, 174, 176, 177, 178, 180, 181, 183, 184, 185, 186, 187, 190, 197, 199, 200, 202, 203, 204, 206, 207, 209, 210, 211, 213, 214, 216, 217, 218, 220, 221, 223, 224, 225, 226, 227, 230, 237, 239, 240, 242, 243, 244, 246, 247, 249, 250, 251, 253, 254, 256, 257, 258, 259, 260, 263, 270, 272, 273, 275, 276, 277, 279, 280, 282, 283, 284, 286, 287, 289, 290, 291, 292, 293, 296, 303, 305, 306, 308, 309, 310, 312, 313, 315, 316, 317, 318, 319, 322, 329, 331, 332, 334, 335, 336, 338, 339, 341, 342, 343, 344, 345, 348, 350, 351, 353, 354, 355, 357, 358, 360, 361, 362, 365, 366, 367, 369, 370, 372, 373, 374, 376, 377, 379, 380, 381, 383, 384, 386, 387, 388, 390, 391, 393, 394, 395, 397, 398, 400, 401, 402, 404, 405, 407, 408, 409, 411, 412, 414, 415]
theorem hd_he : ∀ P, hdAdr = (hdK P).map (·.1) := fun _ => by kernel_rfl
def hdEnv : PySem.Env := { scope := PySem.Challenge.rw_slowroad_k62_whole_talks_of_states.row.prog.main.scope, locals := PySem.mainNs, globals := PySem.mainNs, cells := [], code := PySem.Value.ref 13, frame := some 14 }
def hdBody : List PySem.Stmt := PySem.W.behindTheImports PySem.Challenge.rw_slowroad_k62_whole_talks_of_states.row.prog
def hdC : PySem.Code := .body hdBody hdEnv
abbrev hdB : List PySem.Frame := [PySem.W.topFrame (PySem.Pos.mk 0 0 0 0)]
abbrev hdn : Option PySem.Value := Option.some (PySem.Value.ref 6)
def hpre : PySem.Params → PySem.Heap := fun P => ⟨Array.mk [PySem.W.boot_o_0 P, PySem.W.boot_o_1 P, PySem.W.boot_o_2 P, PySem.W.boot_o_3 P, PySem.W.boot_o_4 P, PySem.W.boot_o_5 P, PySem.W.boot_o_6 P, PySem.W.boot_o_7 P, PySem.W.boot_o_8 P, PySem.W.boot_o_9 P, PySem.W.boot_o_10 P, ob11, ob12, ob13, ob14], PySem.Life.mk List.nil List.nil List.nil 0 List.nil List.nil Bool.false (List.toArray List.nil) List.nil 0 Bool.false Bool.false Bool.false 0 (List.cons 2000 (List.cons 10 (List.cons 10 List.nil))) Bool.false 0 Bool.true List.nil List.nil 0 Bool.false⟩
theorem hd_pre (w : PySem.World) (os : PySem.OsState) : PySem.W.topGo PySem.treeTable PySem.Challenge.rw_slowroad_k62_whole_talks_of_states.row.prog w 11 hdn 12 (⟨PySem.W.boot_heap w.params, Array.mk [], PySem.W.boot_drawn, PySem.W.boot_toks, os⟩ : PySem.Shared) (PySem.W.topStub PySem.Challenge.rw_slowroad_k62_whole_talks_of_states.row.prog) = some ((⟨hpre w.params, Array.mk [], PySem.Drawn.mk 0 0 0 0, 187, os⟩ : PySem.Shared), ⟨PySem.denote PySem.treeTable hdC, hdC, PySem.Pos.mk 0 0 0 0, hdB⟩) := by kernel_rfl
def ht_block : PySem.Params → PySem.W.BT := fun P => nd (PySem.W.boot_o_0 P) (nd (PySem.W.boot_o_1 P) (nd (PySem.W.boot_o_3 P) (lf (PySem.W.boot_o_7 P)) (lf ob11)) (nd (PySem.W.boot_o_5 P) (lf (PySem.W.boot_o_9 P)) (lf ob13))) (nd (PySem.W.boot_o_2 P) (nd (PySem.W.boot_o_4 P) (lf (PySem.W.boot_o_8 P)) (lf ob12)) (nd (PySem.W.boot_o_6 P) (lf (PySem.W.boot_o_10 P)) (lf ob14)))
abbrev hs_block (w : PySem.World) (os : PySem.OsState) : PySem.W.SharedT := PySem.W.SharedT.mk (ht_block w.params) 15 (PySem.Life.mk List.nil List.nil List.nil 0 List.nil List.nil Bool.false (List.toArray List.nil) List.nil 0 Bool.false Bool.false Bool.false 0 (List.cons 2000 (List.cons 10 (List.cons 10 List.nil))) Bool.false 0 Bool.true List.nil List.nil 0 Bool.false) (Array.mk []) (PySem.Drawn.mk 0 0 0 0) 187 os
theorem hd_blk (w : PySem.World) (os : PySem.OsState) : PySem.W.segRun PySem.treeTable PySem.Challenge.rw_slowroad_k62_whole_talks_of_states.row.prog w 11 hdn 1 1 (⟨hpre w.params, Array.mk [], PySem.Drawn.mk 0 0 0 0, 187, os⟩ : PySem.Shared) (PySem.W.blockOf hdBody hdEnv hdC (PySem.Pos.mk 0 0 0 0) hdB) = some (.next, ((hs_block w os)).abs, hdC, PySem.Pos.mk 0 0 0 0) := by kernel_rfl
def ht_g5 : PySem.Params → PySem.W.BT := fun P => nd (PySem.W.boot_o_0 P) (nd (PySem.W.boot_o_1 P) (nd (ob15 P) (nd (PySem.W.boot_o_7 P) (nd ob11 (lf ob33) (lf ob49)) (nd ob25 (lf ob41) .nil)) (nd ob11 (nd ob21 (lf ob37) (lf ob53)) (nd ob29 (lf ob12) .nil))) (nd (PySem.W.boot_o_5 P) (nd (PySem.W.boot_o_9 P) (nd ob19 (lf ob35) (lf ob51)) (nd ob11 (lf ob43) .nil)) (nd ob13 (nd ob23 (lf (ob39 P)) (lf ob55)) (nd ob11 (lf ob11) .nil)))) (nd (PySem.W.boot_o_2 P) (nd (PySem.W.boot_o_4 P) (nd (PySem.W.boot_o_8 P) (nd ob12 (lf ob34) (lf ob50)) (nd (ob26 P) (lf ob42) .nil)) (nd ob16 (nd ob22 (lf ob25) (lf ob54)) (nd ob30 (lf ob46) .nil))) (nd (PySem.W.boot_o_6 P) (nd (PySem.W.boot_o_10 P) (nd ob11 (lf ob36) (lf (ob52 P))) (nd ob12 (lf ob11) .nil)) (nd ob14 (nd ob24 (lf ob11) .nil) (nd (ob32 P) (lf ob48) .nil))))
abbrev hs_g5 (w : PySem.World) (os : PySem.OsState) : PySem.W.SharedT := PySem.W.SharedT.mk (ht_g5 w.params) 54 (PySem.Life.mk List.nil List.nil List.nil 0 List.nil List.nil Bool.false (List.toArray List.nil) List.nil 0 Bool.false Bool.false Bool.false 0 (List.cons 2000 (List.cons 10 (List.cons 10 List.nil))) Bool.false 0 Bool.true List.nil List.nil 0 Bool.false) (Array.mk []) (PySem.Drawn.mk 0 0 0 0) 243 os
def hg5 : List PySem.Stmt := (hdBody.drop 0).take 5
theorem hd_g5 (w : PySem.World) (os : PySem.OsState) : PySem.W.segRunT PySem.treeTable PySem.Challenge.rw_slowroad_k62_whole_talks_of_states.row.prog w 11 hdn 1 481 (hs_block w os) (PySem.W.piecesOf hg5 hdEnv hdC (PySem.Pos.mk 0 0 0 0) hdB) = some (.next, (hs_g5 w os), hdC, PySem.Pos.mk 12 0 12 8) := by kernel_rfl
def ht_g6 : PySem.Params → PySem.W.BT := fun P => nd (PySem.W.boot_o_0 P) (nd (PySem.W.boot_o_1 P) (nd (ob56 P) (nd (PySem.W.boot_o_7 P) (nd ob11 (nd ob33 (lf ob67) (lf ob99)) (nd ob49 (lf ob83) (lf (ob115 P)))) (nd ob25 (nd ob41 (lf ob11) (lf ob11)) (nd ob25 (lf ob91) .nil))) (nd ob11 (nd ob21 (nd ob37 (lf ob71) (lf ob11)) (nd ob53 (lf ob12) (lf ob119))) (nd ob29 (nd ob12 (lf ob11) (lf ob111)) (nd ob63 (lf ob95) .nil)))) (nd (PySem.W.boot_o_5 P) (nd (PySem.W.boot_o_9 P) (nd ob19 (nd ob35 (lf ob69) (lf ob12)) (nd ob51 (lf ob85) (lf ob117))) (nd ob11 (nd ob43 (lf ob77) (lf ob109)) (nd ob11 (lf ob11) .nil))) (nd ob13 (nd ob23 (nd (ob39 P) (lf ob12) (lf ob105)) (nd ob55 (lf ob11) .nil)) (nd ob11 (nd ob11 (lf ob81) (lf ob113)) (nd ob11 (lf ob97) .nil))))) (nd (PySem.W.boot_o_2 P) (nd (PySem.W.boot_o_4 P) (nd (PySem.W.boot_o_8 P) (nd ob12 (nd ob34 (lf ob11) (lf ob11)) (nd ob50 (lf ob84) (lf ob116))) (nd (ob26 P) (nd ob42 (lf ob76) (lf ob12)) (nd (ob60 P) (lf ob92) .nil))) (nd ob57 (nd ob22 (nd ob25 (lf ob11) (lf ob104)) (nd ob54 (lf ob88) (lf ob120))) (nd ob30 (nd ob46 (lf ob12) (lf ob112)) (nd ob64 (lf ob11) .nil)))) (nd (PySem.W.boot_o_6 P) (nd (PySem.W.boot_o_10 P) (nd ob11 (nd ob36 (lf ob70) (lf ob102)) (nd (ob52 P) (lf ob11) (lf ob118))) (nd ob12 (nd ob11 (lf ob78) (lf ob11)) (nd ob62 (lf ob12) .nil))) (nd ob14 (nd ob24 (nd ob11 (lf ob74) (lf ob106)) (nd ob11 (lf ob90) .nil)) (nd (ob32 P) (nd ob48 (lf ob11) (lf ob11)) (nd ob12 (lf ob98) .nil)))))
abbrev hs_g6 (w : PySem.World) (os : PySem.OsState) : PySem.W.SharedT := PySem.W.SharedT.mk (ht_g6 w.params) 117 (PySem.Life.mk List.nil List.nil List.nil 0 List.nil List.nil Bool.false (List.toArray List.nil) List.nil 0 Bool.false Bool.false Bool.false 0 (List.cons 2000 (List.cons 10 (List.cons 10 List.nil))) Bool.false 0 Bool.true List.nil List.nil 0 Bool.false) (Array.mk []) (PySem.Drawn.mk 0 0 0 0) 312 os
def hg6 : List PySem.Stmt := (hdBody.drop 5).take 1
theorem hd_g6 (w : PySem.World) (os : PySem.OsState) : PySem.W.segRunT PySem.treeTable PySem.Challenge.rw_slowroad_k62_whole_talks_of_states.row.prog w 11 hdn 1 407 (hs_g5 w os) (PySem.W.piecesOf hg6 hdEnv hdC (PySem.Pos.mk 12 0 12 8) hdB) = some (.next, (hs_g6 w os), hdC, PySem.Pos.mk 13 0 34 19) := by kernel_rfl
def ht_g8 : PySem.Params → PySem.W.BT := fun P => nd (PySem.W.boot_o_0 P) (nd (PySem.W.boot_o_1 P) (nd (ob121 P) (nd (PySem.W.boot_o_7 P) (nd ob11 (nd ob33 (nd ob67 (lf ob11) .nil) (nd ob99 (lf ob166) .nil)) (nd ob49 (nd ob83 (lf ob150) .nil) (nd (ob115 P) (lf ob182) .nil))) (nd ob25 (nd ob41 (nd ob11 (lf ob142) .nil) (nd ob11 (lf ob11) .nil)) (nd ob25 (nd ob91 (lf ob25) .nil) (nd (ob126 P) (lf ob190) .nil)))) (nd ob11 (nd ob21 (nd ob37 (nd ob71 (lf ob11) .nil) (nd ob11 (lf ob170) .nil)) (nd ob53 (nd ob12 (lf ob154) .nil) (nd ob119 (lf ob12) .nil))) (nd ob29 (nd ob12 (nd ob11 (lf ob12) .nil) (nd ob111 (lf ob11) .nil)) (nd ob63 (nd ob95 (lf ob162) .nil) (nd ob130 (lf ob194) .nil))))) (nd (PySem.W.boot_o_5 P) (nd (PySem.W.boot_o_9 P) (nd ob19 (nd ob35 (nd ob69 (lf ob136) .nil) (nd ob12 (lf ob168) .nil)) (nd ob51 (nd ob85 (lf ob11) .nil) (nd ob117 (lf ob184) .nil))) (nd ob11 (nd ob43 (nd ob77 (lf ob144) .nil) (nd ob109 (lf ob176) .nil)) (nd ob11 (nd ob11 (lf ob11) .nil) (nd ob128 (lf ob11) .nil)))) (nd ob13 (nd ob23 (nd (ob39 P) (nd ob12 (lf ob140) .nil) (nd ob105 (lf ob12) .nil)) (nd ob55 (nd ob11 (lf ob156) .nil) (nd ob124 (lf ob11) .nil))) (nd ob11 (nd ob11 (nd ob81 (lf ob11) .nil) (nd ob113 (lf ob180) .nil)) (nd ob11 (nd ob97 (lf ob11) .nil) (nd ob12 (lf ob196) .nil)))))) (nd (PySem.W.boot_o_2 P) (nd (PySem.W.boot_o_4 P) (nd (PySem.W.boot_o_8 P) (nd ob12 (nd ob34 (nd ob11 (lf ob135) .nil) (nd ob11 (lf ob11) .nil)) (nd ob50 (nd ob84 (lf ob151) .nil) (nd ob123 (lf ob183) .nil))) (nd (ob26 P) (nd ob42 (nd ob76 (lf ob143) .nil) (nd ob12 (lf ob175) .nil)) (nd (ob60 P) (nd ob92 (lf (ob159 P)) .nil) (nd ob11 (lf ob191) .nil)))) (nd ob122 (nd ob22 (nd ob25 (nd ob11 (lf ob12) .nil) (nd ob104 (lf ob11) .nil)) (nd ob54 (nd ob88 (lf ob155) .nil) (nd ob120 (lf ob187) .nil))) (nd ob30 (nd ob46 (nd ob12 (lf ob147) .nil) (nd ob112 (lf ob12) .nil)) (nd ob64 (nd ob11 (lf ob163) .nil) (nd ob11 (lf ob195) .nil))))) (nd (PySem.W.boot_o_6 P) (nd (PySem.W.boot_o_10 P) (nd ob11 (nd ob36 (nd ob70 (lf ob137) .nil) (nd ob102 (lf ob169) .nil)) (nd (ob52 P) (nd ob11 (lf (ob153 P)) .nil) (nd ob118 (lf ob11) .nil))) (nd ob12 (nd ob11 (nd ob78 (lf ob11) .nil) (nd ob11 (lf ob177) .nil)) (nd ob62 (nd ob12 (lf ob161) .nil) (nd ob129 (lf (ob193 P)) .nil)))) (nd ob14 (nd ob24 (nd ob11 (nd ob74 (lf ob11) .nil) (nd ob106 (lf ob173) .nil)) (nd ob11 (nd ob90 (lf ob124) .nil) (nd ob25 (lf ob189) .nil))) (nd (ob32 P) (nd ob48 (nd ob11 (lf ob149) .nil) (nd ob11 (lf ob11) .nil)) (nd ob12 (nd ob98 (lf ob12) .nil) (lf ob133))))))
abbrev hs_g8 (w : PySem.World) (os : PySem.OsState) : PySem.W.SharedT := PySem.W.SharedT.mk (ht_g8 w.params) 190 (PySem.Life.mk List.nil List.nil List.nil 0 List.nil List.nil Bool.false (List.toArray List.nil) List.nil 0 Bool.false Bool.false Bool.false 0 (List.cons 2000 (List.cons 10 (List.cons 10 List.nil))) Bool.false 0 Bool.true List.nil List.nil 0 Bool.false) (Array.mk []) (PySem.Drawn.mk 0 0 0 0) 393 os
def hg8 : List PySem.Stmt := (hdBody.drop 6).take 2
theorem hd_g8 (w : PySem.World) (os : PySem.OsState) : PySem.W.segRunT PySem.treeTable PySem.Challenge.rw_slowroad_k62_whole_talks_of_states.row.prog w 11 hdn 1 642 (hs_g6 w os) (PySem.W.piecesOf hg8 hdEnv hdC (PySem.Pos.mk 13 0 34 19) hdB) = some (.next, (hs_g8 w os), hdC, PySem.Pos.mk 45 0 57 21) := by kernel_rfl
def ht_g10 : PySem.Params → PySem.W.BT := fun P => nd (PySem.W.boot_o_0 P) (nd (PySem.W.boot_o_1 P) (nd (ob197 P) (nd (PySem.W.boot_o_7 P) (nd ob11 (nd ob33 (nd ob67 (nd ob11 (lf ob265) .nil) (lf ob25)) (nd ob99 (lf ob166) (lf ob233))) (nd ob49 (nd ob83 (lf ob150) (lf ob11)) (nd (ob115 P) (lf ob182) (lf ob249)))) (nd ob25 (nd ob41 (nd ob11 (lf ob142) (lf ob209)) (nd ob11 (lf ob11) (lf ob25))) (nd ob25 (nd ob91 (lf ob25) (lf ob225)) (nd (ob126 P) (lf ob190) (lf ob11))))) (nd ob11 (nd ob21 (nd ob37 (nd ob71 (nd ob11 (lf (ob269 P)) .nil) (lf ob205)) (nd ob11 (lf ob170) (lf ob237))) (nd ob53 (nd ob12 (lf ob154) (lf ob11)) (nd ob119 (lf ob12) (lf ob253)))) (nd ob29 (nd ob12 (nd ob11 (lf ob12) (lf ob213)) (nd ob111 (lf ob11) (lf ob245))) (nd ob63 (nd ob95 (lf ob162) (lf ob12)) (nd ob130 (lf ob194) (lf ob11)))))) (nd (PySem.W.boot_o_5 P) (nd (PySem.W.boot_o_9 P) (nd ob19 (nd ob35 (nd ob69 (nd ob136 (lf ob267) .nil) (lf ob11)) (nd ob12 (lf ob168) (lf ob11))) (nd ob51 (nd ob85 (lf ob11) (lf ob219)) (nd ob117 (lf ob184) (lf ob251)))) (nd ob11 (nd ob43 (nd ob77 (lf ob144) (lf ob211)) (nd ob109 (lf ob176) (lf ob11))) (nd ob11 (nd ob11 (lf ob11) (lf ob227)) (nd ob128 (lf ob11) (lf ob259))))) (nd ob13 (nd ob23 (nd (ob39 P) (nd ob12 (nd ob140 (lf ob271) .nil) (lf ob11)) (nd ob105 (lf ob12) (lf ob239))) (nd ob55 (nd ob11 (lf ob156) (lf ob223)) (nd ob124 (lf ob11) (lf ob12)))) (nd ob11 (nd ob11 (nd ob81 (lf ob11) (lf ob12)) (nd ob113 (lf ob180) (lf ob11))) (nd ob11 (nd ob97 (lf ob11) (lf ob11)) (nd ob12 (lf ob196) (lf ob263))))))) (nd (PySem.W.boot_o_2 P) (nd (PySem.W.boot_o_4 P) (nd (PySem.W.boot_o_8 P) (nd ob12 (nd ob34 (nd ob11 (nd ob135 (lf ob266) .nil) (lf (ob202 P))) (nd ob11 (lf ob11) (lf ob234))) (nd ob50 (nd ob84 (lf ob151) (lf ob218)) (nd ob199 (lf ob183) (lf ob11)))) (nd (ob26 P) (nd ob42 (nd ob76 (lf ob143) (lf ob11)) (nd ob12 (lf ob175) (lf (ob242 P)))) (nd (ob60 P) (nd ob92 (lf (ob159 P)) (lf ob226)) (nd ob11 (lf ob191) (lf ob258))))) (nd ob198 (nd ob22 (nd ob25 (nd ob11 (nd ob12 (lf ob270) .nil) (lf ob206)) (nd ob104 (lf ob11) (lf ob238))) (nd ob54 (nd ob88 (lf ob155) (lf ob12)) (nd ob120 (lf ob187) (lf ob11)))) (nd ob30 (nd ob46 (nd ob12 (lf ob147) (lf ob11)) (nd ob112 (lf ob12) (lf ob246))) (nd ob64 (nd ob11 (lf ob163) (lf ob230)) (nd ob11 (lf ob195) (lf ob12)))))) (nd (PySem.W.boot_o_6 P) (nd (PySem.W.boot_o_10 P) (nd ob11 (nd ob36 (nd ob70 (nd ob137 (lf ob11) .nil) (lf ob204)) (nd ob102 (lf ob169) (lf (ob236 P)))) (nd (ob52 P) (nd ob11 (lf (ob153 P)) (lf ob220)) (nd ob118 (lf ob11) (lf ob252)))) (nd ob12 (nd ob11 (nd ob78 (lf ob11) (lf ob212)) (nd ob11 (lf ob177) (lf ob244))) (nd ob62 (nd ob12 (lf ob161) (lf ob11)) (nd ob129 (lf (ob193 P)) (lf ob260))))) (nd ob14 (nd ob24 (nd ob11 (nd ob74 (nd ob11 (lf ob272) .nil) (lf ob12)) (nd ob106 (lf ob173) (lf ob124))) (nd ob11 (nd ob90 (lf ob124) (lf ob11)) (nd ob25 (lf ob189) (lf ob256)))) (nd (ob32 P) (nd ob48 (nd ob11 (lf ob149) (lf ob216)) (nd ob11 (lf ob11) (lf ob12))) (nd ob12 (nd ob98 (lf ob12) (lf ob232)) (nd ob133 (lf ob124) (lf ob11)))))))
abbrev hs_g10 (w : PySem.World) (os : PySem.OsState) : PySem.W.SharedT := PySem.W.SharedT.mk (ht_g10 w.params) 263 (PySem.Life.mk List.nil List.nil List.nil 0 List.nil List.nil Bool.false (List.toArray List.nil) List.nil 0 Bool.false Bool.false Bool.false 0 (List.cons 2000 (List.cons 10 (List.cons 10 List.nil))) Bool.false 0 Bool.true List.nil List.nil 0 Bool.false) (Array.mk []) (PySem.Drawn.mk 0 0 0 0) 474 os
def hg10 : List PySem.Stmt := (hdBody.drop 8).take 2
theorem hd_g10 (w : PySem.World) (os : PySem.OsState) : PySem.W.segRunT PySem.treeTable PySem.Challenge.rw_slowroad_k62_whole_talks_of_states.row.prog w 11 hdn 1 642 (hs_g8 w os) (PySem.W.piecesOf hg10 hdEnv hdC (PySem.Pos.mk 45 0 57 21) hdB) = some (.next, (hs_g10 w os), hdC, PySem.Pos.mk 71 0 80 16) := by kernel_rfl
def ht_g12 : PySem.Params → PySem.W.BT := fun P => nd (PySem.W.boot_o_0 P) (nd (PySem.W.boot_o_1 P) (nd (ob273 P) (nd (PySem.W.boot_o_7 P) (nd ob11 (nd ob33 (nd ob67 (nd ob11 (lf ob265) .nil) (nd ob25 (lf ob332) .nil)) (nd ob99 (nd ob166 (lf ob11) .nil) (lf ob233))) (nd ob49 (nd ob83 (nd ob150 (lf ob12) .nil) (lf ob11)) (nd (ob115 P) (nd ob182 (lf ob11) .nil) (lf ob249)))) (nd ob25 (nd ob41 (nd ob11 (nd ob142 (lf ob124) .nil) (lf ob209)) (nd ob11 (nd ob11 (lf ob308) .nil) (lf ob25))) (nd ob25 (nd ob91 (nd ob25 (lf ob292) .nil) (lf ob225)) (nd (ob126 P) (nd ob190 (lf ob12) .nil) (lf ob11))))) (nd ob11 (nd ob21 (nd ob37 (nd ob71 (nd ob11 (lf (ob269 P)) .nil) (lf ob205)) (nd ob11 (nd ob170 (lf ob11) .nil) (lf ob237))) (nd ob53 (nd ob12 (nd ob154 (lf ob288) .nil) (lf ob11)) (nd ob119 (nd ob12 (lf ob320) .nil) (lf ob253)))) (nd ob29 (nd ob12 (nd ob11 (nd ob12 (lf ob280) .nil) (lf ob213)) (nd ob111 (nd ob11 (lf ob11) .nil) (lf ob245))) (nd ob63 (nd ob95 (nd ob162 (lf ob296) .nil) (lf ob12)) (nd ob130 (nd ob194 (lf ob328) .nil) (lf ob11)))))) (nd (PySem.W.boot_o_5 P) (nd (PySem.W.boot_o_9 P) (nd ob19 (nd ob35 (nd ob69 (nd ob136 (lf ob267) .nil) (nd ob11 (lf ob334) .nil)) (nd ob12 (nd ob168 (lf ob302) .nil) (lf ob11))) (nd ob51 (nd ob85 (nd ob11 (lf ob11) .nil) (lf ob219)) (nd ob117 (nd ob184 (lf ob318) .nil) (lf ob251)))) (nd ob11 (nd ob43 (nd ob77 (nd ob144 (lf (ob278 P)) .nil) (lf ob211)) (nd ob109 (nd ob176 (lf ob25) .nil) (lf ob11))) (nd ob11 (nd ob11 (nd ob11 (lf ob294) .nil) (lf ob227)) (nd ob128 (nd ob11 (lf ob11) .nil) (lf ob259))))) (nd ob13 (nd ob23 (nd (ob39 P) (nd ob12 (nd ob140 (lf ob271) .nil) (lf ob11)) (nd ob105 (nd ob12 (lf ob306) .nil) (lf ob239))) (nd ob55 (nd ob11 (nd ob156 (lf ob11) .nil) (lf ob223)) (nd ob124 (nd ob11 (lf ob322) .nil) (lf ob12)))) (nd ob11 (nd ob11 (nd ob81 (nd ob11 (lf ob282) .nil) (lf ob12)) (nd ob113 (nd ob180 (lf ob314) .nil) (lf ob11))) (nd ob11 (nd ob97 (nd ob11 (lf ob12) .nil) (lf ob11)) (nd ob12 (nd ob196 (lf ob11) .nil) (lf ob263))))))) (nd (PySem.W.boot_o_2 P) (nd (PySem.W.boot_o_4 P) (nd (PySem.W.boot_o_8 P) (nd ob12 (nd ob34 (nd ob11 (nd ob135 (lf ob266) .nil) (nd (ob202 P) (lf ob333) .nil)) (nd ob11 (nd ob11 (lf ob301) .nil) (lf ob234))) (nd ob50 (nd ob84 (nd ob151 (lf ob285) .nil) (lf ob218)) (nd ob275 (nd ob183 (lf ob12) .nil) (lf ob11)))) (nd (ob26 P) (nd ob42 (nd ob76 (nd ob143 (lf ob25) .nil) (lf ob11)) (nd ob12 (nd ob175 (lf ob124) .nil) (lf (ob242 P)))) (nd (ob60 P) (nd ob92 (nd (ob159 P) (lf ob11) .nil) (lf ob226)) (nd ob11 (nd ob191 (lf ob325) .nil) (lf ob258))))) (nd ob274 (nd ob22 (nd ob25 (nd ob11 (nd ob12 (lf ob270) .nil) (lf ob206)) (nd ob104 (nd ob11 (lf (ob305 P)) .nil) (lf ob238))) (nd ob54 (nd ob88 (nd ob155 (lf ob289) .nil) (lf ob12)) (nd ob120 (nd ob187 (lf ob321) .nil) (lf ob11)))) (nd ob30 (nd ob46 (nd ob12 (nd ob147 (lf ob281) .nil) (lf ob11)) (nd ob112 (nd ob12 (lf ob313) .nil) (lf ob246))) (nd ob64 (nd ob11 (nd ob163 (lf ob11) .nil) (lf ob230)) (nd ob11 (nd ob195 (lf ob329) .nil) (lf ob12)))))) (nd (PySem.W.boot_o_6 P) (nd (PySem.W.boot_o_10 P) (nd ob11 (nd ob36 (nd ob70 (nd ob137 (lf ob11) .nil) (lf ob204)) (nd ob102 (nd ob169 (lf ob303) .nil) (lf (ob236 P)))) (nd (ob52 P) (nd ob11 (nd (ob153 P) (lf ob287) .nil) (lf ob220)) (nd ob118 (nd ob11 (lf ob11) .nil) (lf ob252)))) (nd ob12 (nd ob11 (nd ob78 (nd ob11 (lf ob11) .nil) (lf ob212)) (nd ob11 (nd ob177 (lf (ob311 P)) .nil) (lf ob244))) (nd ob62 (nd ob12 (nd ob161 (lf ob295) .nil) (lf ob11)) (nd ob129 (nd (ob193 P) (lf ob327) .nil) (lf ob260))))) (nd ob14 (nd ob24 (nd ob11 (nd ob74 (nd ob11 (lf ob272) .nil) (lf ob12)) (nd ob106 (nd ob173 (lf ob307) .nil) (lf ob124))) (nd ob11 (nd ob90 (nd ob124 (lf ob12) .nil) (lf ob11)) (nd ob25 (nd ob189 (lf ob11) .nil) (lf ob256)))) (nd (ob32 P) (nd ob48 (nd ob11 (nd ob149 (lf ob11) .nil) (lf ob216)) (nd ob11 (nd ob11 (lf ob315) .nil) (lf ob12))) (nd ob12 (nd ob98 (nd ob12 (lf ob299) .nil) (lf ob232)) (nd ob133 (nd ob124 (lf (ob331 P)) .nil) (lf ob11)))))))
abbrev hs_g12 (w : PySem.World) (os : PySem.OsState) : PySem.W.SharedT := PySem.W.SharedT.mk (ht_g12 w.params) 322 (PySem.Life.mk List.nil List.nil List.nil 0 List.nil List.nil Bool.false (List.toArray List.nil) List.nil 0 Bool.false Bool.false Bool.false 0 (List.cons 2000 (List.cons 10 (List.cons 10 List.nil))) Bool.false 0 Bool.true List.nil List.nil 0 Bool.false) (Array.mk []) (PySem.Drawn.mk 0 0 0 0) 541 os
def hg12 : List PySem.Stmt := (hdBody.drop 10).take 2
theorem hd_g12 (w : PySem.World) (os : PySem.OsState) : PySem.W.segRunT PySem.treeTable PySem.Challenge.rw_slowroad_k62_whole_talks_of_states.row.prog w 11 hdn 1 580 (hs_g10 w os) (PySem.W.piecesOf hg12 hdEnv hdC (PySem.Pos.mk 71 0 80 16) hdB) = some (.next, (hs_g12 w os), hdC, PySem.Pos.mk 91 0 97 21) := by kernel_rfl
def ht_g24 : PySem.Params → PySem.W.BT := fun P => nd (PySem.W.boot_o_0 P) (nd (PySem.W.boot_o_1 P) (nd (ob335 P) (nd (PySem.W.boot_o_7 P) (nd ob11 (nd ob33 (nd ob67 (nd ob11 (lf ob265) (lf ob399)) (nd ob25 (lf ob332) .nil)) (nd ob99 (nd ob166 (lf ob11) (lf ob431)) (nd ob233 (lf ob11) .nil))) (nd ob49 (nd ob83 (nd ob150 (lf ob12) (lf ob415)) (nd ob11 (lf ob351) .nil)) (nd (ob115 P) (nd ob182 (lf ob11) .nil) (nd ob249 (lf ob11) .nil)))) (nd ob25 (nd ob41 (nd ob11 (nd ob142 (lf ob124) (lf ob11)) (nd ob209 (lf ob343) .nil)) (nd ob11 (nd ob11 (lf ob308) .nil) (nd ob25 (lf ob375) .nil))) (nd ob25 (nd ob91 (nd ob25 (lf ob292) (lf ob423)) (nd ob225 (lf ob11) .nil)) (nd (ob126 P) (nd ob190 (lf ob12) .nil) (nd ob11 (lf ob12) .nil))))) (nd ob11 (nd ob21 (nd ob37 (nd ob71 (nd ob11 (lf (ob269 P)) (lf ob403)) (nd ob205 (lf ob25) .nil)) (nd ob11 (nd ob170 (lf ob11) .nil) (nd ob237 (lf ob11) .nil))) (nd ob53 (nd ob12 (nd ob154 (lf ob288) (lf ob12)) (nd ob11 (lf ob11) .nil)) (nd ob119 (nd ob12 (lf ob320) .nil) (nd ob253 (lf ob387) .nil)))) (nd ob29 (nd ob12 (nd ob11 (nd ob12 (lf ob280) (lf ob11)) (nd ob213 (lf ob347) .nil)) (nd ob111 (nd ob11 (lf ob11) .nil) (nd ob245 (lf ob12) .nil))) (nd ob63 (nd ob95 (nd ob162 (lf ob296) (lf ob427)) (nd ob12 (lf ob363) .nil)) (nd ob130 (nd ob194 (lf ob328) .nil) (nd ob11 (lf ob395) .nil)))))) (nd (PySem.W.boot_o_5 P) (nd (PySem.W.boot_o_9 P) (nd ob19 (nd ob35 (nd ob69 (nd ob136 (lf ob267) (lf ob401)) (nd ob11 (lf ob334) .nil)) (nd ob12 (nd ob168 (lf ob302) .nil) (nd ob11 (lf ob369) .nil))) (nd ob51 (nd ob85 (nd ob11 (lf ob11) (lf ob417)) (nd ob219 (lf ob12) .nil)) (nd ob117 (nd ob184 (lf ob318) .nil) (nd ob251 (lf ob385) .nil)))) (nd ob11 (nd ob43 (nd ob77 (nd ob144 (lf (ob278 P)) (lf ob409)) (nd ob211 (lf ob11) .nil)) (nd ob109 (nd ob176 (lf ob25) .nil) (nd ob11 (lf ob377) .nil))) (nd ob11 (nd ob11 (nd ob11 (lf ob294) (lf ob11)) (nd ob227 (lf ob361) .nil)) (nd ob128 (nd ob11 (lf ob11) .nil) (nd ob259 (lf ob11) .nil))))) (nd ob13 (nd ob23 (nd (ob39 P) (nd ob12 (nd ob140 (lf ob271) (lf ob12)) (nd ob11 (lf ob11) .nil)) (nd ob105 (nd ob12 (lf ob306) .nil) (nd ob239 (lf ob373) .nil))) (nd ob55 (nd ob11 (nd ob156 (lf ob11) (lf ob11)) (nd ob223 (lf ob357) .nil)) (nd ob124 (nd ob11 (lf ob322) .nil) (nd ob12 (lf ob389) .nil)))) (nd ob11 (nd ob11 (nd ob81 (nd ob11 (lf ob282) (lf ob413)) (nd ob12 (lf ob349) .nil)) (nd ob113 (nd ob180 (lf ob314) .nil) (nd ob11 (lf ob381) .nil))) (nd ob11 (nd ob97 (nd ob11 (lf ob12) (lf ob429)) (nd ob11 (lf ob12) .nil)) (nd ob12 (nd ob196 (lf ob11) .nil) (nd ob263 (lf ob11) .nil))))))) (nd (PySem.W.boot_o_2 P) (nd (PySem.W.boot_o_4 P) (nd (PySem.W.boot_o_8 P) (nd ob12 (nd ob34 (nd ob11 (nd ob135 (lf ob266) (lf ob11)) (nd (ob202 P) (lf ob333) .nil)) (nd ob11 (nd ob11 (lf ob301) .nil) (nd ob234 (lf ob368) .nil))) (nd ob50 (nd ob84 (nd ob151 (lf ob285) (lf ob416)) (nd ob218 (lf ob11) .nil)) (nd ob337 (nd ob183 (lf ob12) .nil) (nd ob11 (lf ob12) .nil)))) (nd (ob26 P) (nd ob42 (nd ob76 (nd ob143 (lf ob25) (lf ob408)) (nd ob11 (lf ob344) .nil)) (nd ob12 (nd ob175 (lf ob124) .nil) (nd (ob242 P) (lf ob376) .nil))) (nd (ob60 P) (nd ob92 (nd (ob159 P) (lf ob11) (lf ob424)) (nd ob226 (lf (ob360 P)) .nil)) (nd ob11 (nd ob191 (lf ob325) .nil) (nd ob258 (lf ob392) .nil))))) (nd ob336 (nd ob22 (nd ob25 (nd ob11 (nd ob12 (lf ob270) (lf ob11)) (nd ob206 (lf (ob340 P)) .nil)) (nd ob104 (nd ob11 (lf (ob305 P)) .nil) (nd ob238 (lf ob12) .nil))) (nd ob54 (nd ob88 (nd ob155 (lf ob289) (lf ob420)) (nd ob12 (lf ob356) .nil)) (nd ob120 (nd ob187 (lf ob321) .nil) (nd ob11 (lf ob388) .nil)))) (nd ob30 (nd ob46 (nd ob12 (nd ob147 (lf ob281) (lf ob12)) (nd ob11 (lf ob11) .nil)) (nd ob112 (nd ob12 (lf ob313) .nil) (nd ob246 (lf ob380) .nil))) (nd ob64 (nd ob11 (nd ob163 (lf ob11) (lf ob11)) (nd ob230 (lf ob11) .nil)) (nd ob11 (nd ob195 (lf ob329) .nil) (nd ob12 (lf ob396) .nil)))))) (nd (PySem.W.boot_o_6 P) (nd (PySem.W.boot_o_10 P) (nd ob11 (nd ob36 (nd ob70 (nd ob137 (lf ob11) (lf ob402)) (nd ob204 (lf ob124) .nil)) (nd ob102 (nd ob169 (lf ob303) .nil) (nd (ob236 P) (lf ob370) .nil))) (nd (ob52 P) (nd ob11 (nd (ob153 P) (lf ob287) (lf ob11)) (nd ob220 (lf ob354) .nil)) (nd ob118 (nd ob11 (lf ob11) .nil) (nd ob252 (lf ob11) .nil)))) (nd ob12 (nd ob11 (nd ob78 (nd ob11 (lf ob11) (lf ob410)) (nd ob212 (lf ob12) .nil)) (nd ob11 (nd ob177 (lf (ob311 P)) .nil) (nd ob244 (lf ob11) .nil))) (nd ob62 (nd ob12 (nd ob161 (lf ob295) (lf ob12)) (nd ob11 (lf ob362) .nil)) (nd ob129 (nd (ob193 P) (lf ob327) .nil) (nd ob260 (lf ob394) .nil))))) (nd ob14 (nd ob24 (nd ob11 (nd ob74 (nd ob11 (lf ob272) (lf ob406)) (nd ob12 (lf ob342) .nil)) (nd ob106 (nd ob173 (lf ob307) .nil) (nd ob124 (lf ob11) .nil))) (nd ob11 (nd ob90 (nd ob124 (lf ob12) (lf ob422)) (nd ob11 (lf ob358) .nil)) (nd ob25 (nd ob189 (lf ob11) .nil) (nd ob256 (lf ob11) .nil)))) (nd (ob32 P) (nd ob48 (nd ob11 (nd ob149 (lf ob11) (lf ob11)) (nd ob216 (lf ob350) .nil)) (nd ob11 (nd ob11 (lf ob315) .nil) (nd ob12 (lf ob382) .nil))) (nd ob12 (nd ob98 (nd ob12 (lf ob299) (lf ob430)) (nd ob232 (lf ob366) .nil)) (nd ob133 (nd ob124 (lf (ob331 P)) .nil) (nd ob11 (lf ob12) .nil)))))))
abbrev hs_g24 (w : PySem.World) (os : PySem.OsState) : PySem.W.SharedT := PySem.W.SharedT.mk (ht_g24 w.params) 416 (PySem.Life.mk List.nil List.nil List.nil 0 List.nil List.nil Bool.false (List.toArray List.nil) List.nil 0 Bool.false Bool.false Bool.false 0 (List.cons 2000 (List.cons 10 (List.cons 10 List.nil))) Bool.false 0 Bool.true List.nil List.nil 0 Bool.false) (Array.mk []) (PySem.Drawn.mk 0 0 0 0) 695 os
def hg24 : List PySem.Stmt := (hdBody.drop 12).take 12
theorem hd_g24 (w : PySem.World) (os : PySem.OsState) : PySem.W.segRunT PySem.treeTable PySem.Challenge.rw_slowroad_k62_whole_talks_of_states.row.prog w 11 hdn 1 624 (hs_g12 w os) (PySem.W.piecesOf hg24 hdEnv hdC (PySem.Pos.mk 91 0 97 21) hdB) = some (.next, (hs_g24 w os), hdC, PySem.Pos.mk 186 0 206 67) := by kernel_rfl
def hfin : PySem.Params → PySem.Heap := fun P => ⟨Array.mk [PySem.W.boot_o_0 P, PySem.W.boot_o_1 P, PySem.W.boot_o_2 P, ob335 P, PySem.W.boot_o_4 P, PySem.W.boot_o_5 P, PySem.W.boot_o_6 P, PySem.W.boot_o_7 P, PySem.W.boot_o_8 P, PySem.W.boot_o_9 P, PySem.W.boot_o_10 P, ob11, ob336, ob13, ob14, ob11, ob12, ob19, ob11, ob21, ob22, ob23, ob24, ob25, ob26 P, ob11, ob12, ob29, ob30, ob11, ob32 P, ob33, ob34, ob35, ob36, ob37, ob25, ob39 P, ob11, ob41, ob42, ob43, ob11, ob12, ob46, ob11, ob48, ob49, ob50, ob51, ob52 P, ob53, ob54, ob55, ob11, ob25, ob60 P, ob11, ob62, ob63, ob64, ob11, ob12, ob67, ob11, ob69, ob70, ob71, ob11, ob12, ob74, ob11, ob76, ob77, ob78, ob11, ob12, ob81, ob11, ob83, ob84, ob85, ob11, ob12, ob88, ob11, ob90, ob91, ob92, ob11, ob12, ob95, ob11, ob97, ob98, ob99, ob11, ob12, ob102, ob11, ob104, ob105, ob106, ob11, ob12, ob109, ob11, ob111, ob112, ob113, ob11, ob115 P, ob337, ob117, ob118, ob119, ob120, ob124, ob25, ob126 P, ob11, ob128, ob129, ob130, ob11, ob12, ob133, ob11, ob135, ob136, ob137, ob11, ob12, ob140, ob11, ob142, ob143, ob144, ob11, ob12, ob147, ob11, ob149, ob150, ob151, ob11, ob153 P, ob154, ob155, ob156, ob124, ob25, ob159 P, ob11, ob161, ob162, ob163, ob11, ob12, ob166, ob11, ob168, ob169, ob170, ob11, ob12, ob173, ob11, ob175, ob176, ob177, ob11, ob12, ob180, ob11, ob182, ob183, ob184, ob11, ob12, ob187, ob11, ob189, ob190, ob191, ob11, ob193 P, ob194, ob195, ob196, ob124, ob25, ob202 P, ob11, ob204, ob205, ob206, ob11, ob12, ob209, ob11, ob211, ob212, ob213, ob11, ob12, ob216, ob11, ob218, ob219, ob220, ob11, ob12, ob223, ob11, ob225, ob226, ob227, ob11, ob12, ob230, ob11, ob232, ob233, ob234, ob11, ob236 P, ob237, ob238, ob239, ob124, ob25, ob242 P, ob11, ob244, ob245, ob246, ob11, ob12, ob249, ob11, ob251, ob252, ob253, ob11, ob12, ob256, ob11, ob258, ob259, ob260, ob11, ob12, ob263, ob11, ob265, ob266, ob267, ob11, ob269 P, ob270, ob271, ob272, ob124, ob25, ob278 P, ob11, ob280, ob281, ob282, ob11, ob12, ob285, ob11, ob287, ob288, ob289, ob11, ob12, ob292, ob11, ob294, ob295, ob296, ob11, ob12, ob299, ob11, ob301, ob302, ob303, ob11, ob305 P, ob306, ob307, ob308, ob124, ob25, ob311 P, ob11, ob313, ob314, ob315, ob11, ob12, ob318, ob11, ob320, ob321, ob322, ob11, ob12, ob325, ob11, ob327, ob328, ob329, ob11, ob331 P, ob332, ob333, ob334, ob124, ob25, ob340 P, ob11, ob342, ob343, ob344, ob11, ob12, ob347, ob11, ob349, ob350, ob351, ob11, ob12, ob354, ob11, ob356, ob357, ob358, ob11, ob360 P, ob361, ob362, ob363, ob11, ob12, ob366, ob11, ob368, ob369, ob370, ob11, ob12, ob373, ob11, ob375, ob376, ob377, ob11, ob12, ob380, ob381, ob382, ob11, ob12, ob385, ob11, ob387, ob388, ob389, ob11, ob12, ob392, ob11, ob394, ob395, ob396, ob11, ob12, ob399, ob11, ob401, ob402, ob403, ob11, ob12, ob406, ob11, ob408, ob409, ob410, ob11, ob12, ob413, ob11, ob415, ob416, ob417, ob11, ob12, ob420, ob11, ob422, ob423, ob424, ob11, ob12, ob427, ob11, ob429, ob430, ob431], PySem.Life.mk List.nil List.nil List.nil 0 List.nil List.nil Bool.false (List.toArray List.nil) List.nil 0 Bool.false Bool.false Bool.false 0 (List.cons 2000 (List.cons 10 (List.cons 10 List.nil))) Bool.false 0 Bool.true List.nil List.nil 0 Bool.false⟩
theorem hd_fin (w : PySem.World) (os : PySem.OsState) : PySem.W.topRun PySem.treeTable PySem.Challenge.rw_slowroad_k62_whole_talks_of_states.row.prog w 11 hdn 2 ((hs_g24 w os)).abs ⟨PySem.W.doneF .next, hdC, PySem.Pos.mk 186 0 206 67, hdB⟩ = some (⟨hfin w.params, Array.mk [], PySem.Drawn.mk 0 0 0 0, 695, os⟩ : PySem.Shared) := by kernel_rfl
theorem hd_body : hdBody = hg5 ++ (hg6 ++ (hg8 ++ (hg10 ++ (hg12 ++ (hg24 ++ ([])))))) := by kernel_rfl
theorem hd_rest (w : PySem.World) (os : PySem.OsState) : PySem.W.topRun PySem.treeTable PySem.Challenge.rw_slowroad_k62_whole_talks_of_states.row.prog w 11 hdn 3378 ((hs_block w os)).abs (PySem.W.restOf hdBody hdEnv hdC (PySem.Pos.mk 0 0 0 0) hdB) = some (⟨hfin w.params, Array.mk [], PySem.Drawn.mk 0 0 0 0, 695, os⟩ : PySem.Shared) := by
  rw [hd_body]; exact (PySem.W.piece_app (PySem.W.segRun_of (hd_g5 w os)) (PySem.W.piece_app (PySem.W.segRun_of (hd_g6 w os)) (PySem.W.piece_app (PySem.W.segRun_of (hd_g8 w os)) (PySem.W.piece_app (PySem.W.segRun_of (hd_g10 w os)) (PySem.W.piece_app (PySem.W.segRun_of (hd_g12 w os)) (PySem.W.piece_app (PySem.W.segRun_of (hd_g24 w os)) (PySem.W.piece_nil (hd_fin w os))))))))
theorem hd_run (w : PySem.World) (os : PySem.OsState) : PySem.W.topRun PySem.treeTable PySem.Challenge.rw_slowroad_k62_whole_talks_of_states.row.prog w 11 hdn 3391 (⟨PySem.W.boot_heap w.params, Array.mk [], PySem.W.boot_drawn, PySem.W.boot_toks, os⟩ : PySem.Shared) (PySem.W.topStub PySem.Challenge.rw_slowroad_k62_whole_talks_of_states.row.prog) = some (⟨hfin w.params, Array.mk [], PySem.Drawn.mk 0 0 0 0, 695, os⟩ : PySem.Shared) := PySem.W.go_top (n := 12) (N := 3379) (hd_pre w os) (PySem.W.piece_block (n := 1) (N := 3378) (hd_blk w os) (hd_rest w os))
theorem hd_open : ∀ w : PySem.World, (PySem.W.fencedOpening PySem.treeTable PySem.Challenge.rw_slowroad_k62_whole_talks_of_states.row.prog w 6866).map (fun s => (s.heap, s.gens, s.drawn, s.toks)) = some (PySem.W.boot_heap w.params, Array.mk [], PySem.W.boot_drawn, PySem.W.boot_toks) := PySem.W.boot_open rfl (by decide) (fun s => rfl)
theorem hd_size : ∀ w : PySem.World, ((PySem.W.boot_heap w.params).isNs PySem.mainGlobals && (Array.mk [] : Array PySem.GenState).size == 0, (PySem.W.boot_heap w.params).objs.size, (PySem.W.boot_heap w.params).nsMap PySem.mainGlobals "__annotations__") = (true, 11, hdn) := fun w => by kernel_rfl
theorem hd_l1 (w : PySem.World) (os : PySem.OsState) : (PySem.W.staticsOk (PySem.importedModules PySem.Challenge.rw_slowroad_k62_whole_talks_of_states.row.prog.main.body) (PySem.W.boot_heap w.params) (hfin w.params) && PySem.W.namesBound PySem.Challenge.rw_slowroad_k62_whole_talks_of_states.row.prog (hfin w.params) && PySem.W.gensDone (⟨hfin w.params, Array.mk [], PySem.Drawn.mk 0 0 0 0, 695, os⟩ : PySem.Shared) && PySem.W.laidKept (PySem.W.boot_heap w.params) (hfin w.params)) = true := by kernel_rfl
theorem hd_l2 (w : PySem.World) (os : PySem.OsState) : PySem.W.openSeen hdView [] (PySem.importedModules PySem.Challenge.rw_slowroad_k62_whole_talks_of_states.row.prog.main.body) (fun s => PySem.W.xlAt hdView [] s && PySem.W.recOk PySem.Challenge.rw_slowroad_k62_whole_talks_of_states.row.records s) true (⟨hfin w.params, Array.mk [], PySem.Drawn.mk 0 0 0 0, 695, os⟩ : PySem.Shared) = PySem.W.openGood hdView [] := by kernel_rfl
theorem hd_l3 (w : PySem.World) (os : PySem.OsState) : (PySem.W.kHook hdK hdAdr hd_he).obs (⟨hfin w.params, Array.mk [], PySem.Drawn.mk 0 0 0 0, 695, os⟩ : PySem.Shared) = (PySem.W.kHook hdK hdAdr hd_he).val w := by kernel_rfl
theorem hd_hl : ∀ w : PySem.World, Option.map (fun s => (PySem.W.openSeen hdView [] (PySem.importedModules PySem.Challenge.rw_slowroad_k62_whole_talks_of_states.row.prog.main.body) (fun s => PySem.W.xlAt hdView [] s && PySem.W.recOk PySem.Challenge.rw_slowroad_k62_whole_talks_of_states.row.records s) true s, (PySem.W.kHook hdK hdAdr hd_he).obs s)) (PySem.W.openEnds PySem.treeTable PySem.Challenge.rw_slowroad_k62_whole_talks_of_states.row.prog w 6866) = some (PySem.W.openGood hdView [], (PySem.W.kHook hdK hdAdr hd_he).val w) := PySem.W.LeftO.of_pieces (H₀ := PySem.W.boot_heap) (H₁ := hfin) hd_open hd_size hd_run (by decide) (fun w => funext fun os => PySem.W.looks_pair (hd_l1 w os) (PySem.W.looks_pair (hd_l2 w os) (hd_l3 w os)))
end

noncomputable def tbl (C_Shut C_Calling C_Open C_Left C_Leaving C_Waiting C_Closing : Addr) : List (Addr × Str) := [(C_Shut, "shut"), (C_Calling, "calling"), (C_Open, "open"), (C_Left, "left"), (C_Leaving, "leaving"), (C_Waiting, "waiting"), (C_Closing, "closing")]
noncomputable def StAt (tb : List (Addr × Str)) (H : Hp) (x : Addr) (nm : Str) : Prop := ∃ C dx, H x = some (.ins C dx []) ∧ (C, nm) ∈ tb
theorem StAt.same {tb : List (Addr × Str)} {H H' : Hp} {x : Addr} {nm : Str} (h : StAt tb H x nm) (s : Same H H') : StAt tb H' x nm := by
  obtain ⟨C, dx, h1, h2⟩ := h
  exact ⟨C, dx, s _ _ h1, h2⟩
noncomputable def dueT : List (Str × Str × Str) := [("shut", "begin", "calling"), ("shut", "begun", "open"), ("calling", "end", "leaving"), ("calling", "begun", "open"), ("open", "end", "leaving"), ("open", "ended", "left"), ("left", "end", "closing"), ("leaving", "ended", "closing"), ("leaving", "answered", "waiting"), ("waiting", "ended", "shut"), ("closing", "answered", "shut")]
noncomputable def nextS (nm w : Str) : Option Str := match dueT.find? (fun t => decide (t.1 = nm) && decide (t.2.1 = w)) with
  | some t => some t.2.2
  | none => if w = "begin" ∨ w = "end" then none else some nm
noncomputable def mayB (nm : Str) : Bool := decide (nm = "calling") || decide (nm = "open") || decide (nm = "left")
theorem dropx {H H1 : Hp} {e d C : Addr} {o : HO} {l : List (Str × V)} (S : Same H H1) (he : H1 e = none) (hd : upd H1 e o d = none) : Same H (dropH (upd (upd (upd H1 e o) d (.xd l)) e (.ext (exN e C (some d)))) e) ∧ dropH (upd (upd (upd H1 e o) d (.xd l)) e (.ext (exN e C (some d)))) e d = some (.xd l) := by
  have nd : d ≠ e := fun z => by rw [z, upd_same] at hd; cases hd
  refine ⟨fun b u hb => ?_, ?_⟩
  · have h1 := S b u hb
    have nb : b ≠ e := ne_of_none h1 he
    rw [dropH_ne nb, upd_ne nb, upd_ne (fun z => ?_), upd_ne nb]; exact h1
    rw [z] at h1
    rw [upd_ne nd] at hd
    rw [h1] at hd; cases hd
  · rw [dropH_ne nd, upd_ne nd, upd_same]
noncomputable def sp_NotNow___init__  (C_NotNow : Addr) : Sp := fun vs H Q E => match vs with
  | [.ref e, v, u] => H e = some (.ext (exN e C_NotNow none)) ∧ ∀ d, H d = none → Q .non (upd (upd H d (.xd [("state", v), ("wish", u)])) e (.ext (exN e C_NotNow (some d))))
  | _ => False
noncomputable def sp_Shut_name  : Sp := fun vs H Q E => match vs with
  | [.ref x] => Q (.str "shut") H
  | _ => False
noncomputable def sp_Calling_name  : Sp := fun vs H Q E => match vs with
  | [.ref x] => Q (.str "calling") H
  | _ => False
noncomputable def sp_Open_name  : Sp := fun vs H Q E => match vs with
  | [.ref x] => Q (.str "open") H
  | _ => False
noncomputable def sp_Left_name  : Sp := fun vs H Q E => match vs with
  | [.ref x] => Q (.str "left") H
  | _ => False
noncomputable def sp_Leaving_name  : Sp := fun vs H Q E => match vs with
  | [.ref x] => Q (.str "leaving") H
  | _ => False
noncomputable def sp_Waiting_name  : Sp := fun vs H Q E => match vs with
  | [.ref x] => Q (.str "waiting") H
  | _ => False
noncomputable def sp_Closing_name  : Sp := fun vs H Q E => match vs with
  | [.ref x] => Q (.str "closing") H
  | _ => False
noncomputable def sp_Shut_wish_begin  (C_Shut : Addr) (C_Calling : Addr) (C_Open : Addr) (C_Left : Addr) (C_Leaving : Addr) (C_Waiting : Addr) (C_Closing : Addr) : Sp := fun vs H Q E => match vs with
  | [.ref x] => ∀ y H', Same H H' → StAt (tbl C_Shut C_Calling C_Open C_Left C_Leaving C_Waiting C_Closing) H' y "calling" → Q (.ref y) H'
  | _ => False
noncomputable def sp_Calling_wish_end  (C_Shut : Addr) (C_Calling : Addr) (C_Open : Addr) (C_Left : Addr) (C_Leaving : Addr) (C_Waiting : Addr) (C_Closing : Addr) : Sp := fun vs H Q E => match vs with
  | [.ref x] => ∀ y H', Same H H' → StAt (tbl C_Shut C_Calling C_Open C_Left C_Leaving C_Waiting C_Closing) H' y "leaving" → Q (.ref y) H'
  | _ => False
noncomputable def sp_Open_wish_end  (C_Shut : Addr) (C_Calling : Addr) (C_Open : Addr) (C_Left : Addr) (C_Leaving : Addr) (C_Waiting : Addr) (C_Closing : Addr) : Sp := fun vs H Q E => match vs with
  | [.ref x] => ∀ y H', Same H H' → StAt (tbl C_Shut C_Calling C_Open C_Left C_Leaving C_Waiting C_Closing) H' y "leaving" → Q (.ref y) H'
  | _ => False
noncomputable def sp_Left_wish_end  (C_Shut : Addr) (C_Calling : Addr) (C_Open : Addr) (C_Left : Addr) (C_Leaving : Addr) (C_Waiting : Addr) (C_Closing : Addr) : Sp := fun vs H Q E => match vs with
  | [.ref x] => ∀ y H', Same H H' → StAt (tbl C_Shut C_Calling C_Open C_Left C_Leaving C_Waiting C_Closing) H' y "closing" → Q (.ref y) H'
  | _ => False
noncomputable def sp_Shut_begun  (C_Shut : Addr) (C_Calling : Addr) (C_Open : Addr) (C_Left : Addr) (C_Leaving : Addr) (C_Waiting : Addr) (C_Closing : Addr) : Sp := fun vs H Q E => match vs with
  | [.ref x] => ∀ y H', Same H H' → StAt (tbl C_Shut C_Calling C_Open C_Left C_Leaving C_Waiting C_Closing) H' y "open" → Q (.ref y) H'
  | _ => False
noncomputable def sp_Calling_begun  (C_Shut : Addr) (C_Calling : Addr) (C_Open : Addr) (C_Left : Addr) (C_Leaving : Addr) (C_Waiting : Addr) (C_Closing : Addr) : Sp := fun vs H Q E => match vs with
  | [.ref x] => ∀ y H', Same H H' → StAt (tbl C_Shut C_Calling C_Open C_Left C_Leaving C_Waiting C_Closing) H' y "open" → Q (.ref y) H'
  | _ => False
noncomputable def sp_Open_ended  (C_Shut : Addr) (C_Calling : Addr) (C_Open : Addr) (C_Left : Addr) (C_Leaving : Addr) (C_Waiting : Addr) (C_Closing : Addr) : Sp := fun vs H Q E => match vs with
  | [.ref x] => ∀ y H', Same H H' → StAt (tbl C_Shut C_Calling C_Open C_Left C_Leaving C_Waiting C_Closing) H' y "left" → Q (.ref y) H'
  | _ => False
noncomputable def sp_Leaving_ended  (C_Shut : Addr) (C_Calling : Addr) (C_Open : Addr) (C_Left : Addr) (C_Leaving : Addr) (C_Waiting : Addr) (C_Closing : Addr) : Sp := fun vs H Q E => match vs with
  | [.ref x] => ∀ y H', Same H H' → StAt (tbl C_Shut C_Calling C_Open C_Left C_Leaving C_Waiting C_Closing) H' y "closing" → Q (.ref y) H'
  | _ => False
noncomputable def sp_Waiting_ended  (C_Shut : Addr) (C_Calling : Addr) (C_Open : Addr) (C_Left : Addr) (C_Leaving : Addr) (C_Waiting : Addr) (C_Closing : Addr) : Sp := fun vs H Q E => match vs with
  | [.ref x] => ∀ y H', Same H H' → StAt (tbl C_Shut C_Calling C_Open C_Left C_Leaving C_Waiting C_Closing) H' y "shut" → Q (.ref y) H'
  | _ => False
noncomputable def sp_Leaving_answered  (C_Shut : Addr) (C_Calling : Addr) (C_Open : Addr) (C_Left : Addr) (C_Leaving : Addr) (C_Waiting : Addr) (C_Closing : Addr) : Sp := fun vs H Q E => match vs with
  | [.ref x] => ∀ y H', Same H H' → StAt (tbl C_Shut C_Calling C_Open C_Left C_Leaving C_Waiting C_Closing) H' y "waiting" → Q (.ref y) H'
  | _ => False
noncomputable def sp_Closing_answered  (C_Shut : Addr) (C_Calling : Addr) (C_Open : Addr) (C_Left : Addr) (C_Leaving : Addr) (C_Waiting : Addr) (C_Closing : Addr) : Sp := fun vs H Q E => match vs with
  | [.ref x] => ∀ y H', Same H H' → StAt (tbl C_Shut C_Calling C_Open C_Left C_Leaving C_Waiting C_Closing) H' y "shut" → Q (.ref y) H'
  | _ => False
noncomputable def sp_State_begun  : Sp := fun vs H Q E => match vs with
  | [.ref x] => Q (.ref x) H
  | _ => False
noncomputable def sp_State_ended  : Sp := fun vs H Q E => match vs with
  | [.ref x] => Q (.ref x) H
  | _ => False
noncomputable def sp_State_answered  : Sp := fun vs H Q E => match vs with
  | [.ref x] => Q (.ref x) H
  | _ => False
noncomputable def sp_State_wish_begin  (C_NotNow : Addr) (C_Shut : Addr) (C_Calling : Addr) (C_Open : Addr) (C_Left : Addr) (C_Leaving : Addr) (C_Waiting : Addr) (C_Closing : Addr) : Sp := fun vs H Q E => match vs with
  | [.ref x] => ∃ nm, StAt (tbl C_Shut C_Calling C_Open C_Left C_Leaving C_Waiting C_Closing) H x nm ∧ ∀ H' d, Same H H' → H' d = some (.xd [("state", .str nm), ("wish", .str "begin")]) → E (.ref C_NotNow) (some d) H'
  | _ => False
noncomputable def sp_State_wish_end  (C_NotNow : Addr) (C_Shut : Addr) (C_Calling : Addr) (C_Open : Addr) (C_Left : Addr) (C_Leaving : Addr) (C_Waiting : Addr) (C_Closing : Addr) : Sp := fun vs H Q E => match vs with
  | [.ref x] => ∃ nm, StAt (tbl C_Shut C_Calling C_Open C_Left C_Leaving C_Waiting C_Closing) H x nm ∧ ∀ H' d, Same H H' → H' d = some (.xd [("state", .str nm), ("wish", .str "end")]) → E (.ref C_NotNow) (some d) H'
  | _ => False
noncomputable def sp_V_name  (C_Shut : Addr) (C_Calling : Addr) (C_Open : Addr) (C_Left : Addr) (C_Leaving : Addr) (C_Waiting : Addr) (C_Closing : Addr) : Sp := fun vs H Q E => match vs with
  | [.ref x] => ∃ nm, StAt (tbl C_Shut C_Calling C_Open C_Left C_Leaving C_Waiting C_Closing) H x nm ∧ Q (.str nm) H
  | _ => False
noncomputable def sp_V_wish_begin  (C_NotNow : Addr) (C_Shut : Addr) (C_Calling : Addr) (C_Open : Addr) (C_Left : Addr) (C_Leaving : Addr) (C_Waiting : Addr) (C_Closing : Addr) : Sp := fun vs H Q E => match vs with
  | [.ref x] => ∃ nm, StAt (tbl C_Shut C_Calling C_Open C_Left C_Leaving C_Waiting C_Closing) H x nm ∧ (∀ nx, nextS nm "begin" = some nx → ∀ y H', Same H H' → StAt (tbl C_Shut C_Calling C_Open C_Left C_Leaving C_Waiting C_Closing) H' y nx → Q (.ref y) H') ∧ (nextS nm "begin" = none → ∀ H' d, Same H H' → H' d = some (.xd [("state", .str nm), ("wish", .str "begin")]) → E (.ref C_NotNow) (some d) H')
  | _ => False
noncomputable def sp_V_wish_end  (C_NotNow : Addr) (C_Shut : Addr) (C_Calling : Addr) (C_Open : Addr) (C_Left : Addr) (C_Leaving : Addr) (C_Waiting : Addr) (C_Closing : Addr) : Sp := fun vs H Q E => match vs with
  | [.ref x] => ∃ nm, StAt (tbl C_Shut C_Calling C_Open C_Left C_Leaving C_Waiting C_Closing) H x nm ∧ (∀ nx, nextS nm "end" = some nx → ∀ y H', Same H H' → StAt (tbl C_Shut C_Calling C_Open C_Left C_Leaving C_Waiting C_Closing) H' y nx → Q (.ref y) H') ∧ (nextS nm "end" = none → ∀ H' d, Same H H' → H' d = some (.xd [("state", .str nm), ("wish", .str "end")]) → E (.ref C_NotNow) (some d) H')
  | _ => False
noncomputable def sp_V_begun  (C_Shut : Addr) (C_Calling : Addr) (C_Open : Addr) (C_Left : Addr) (C_Leaving : Addr) (C_Waiting : Addr) (C_Closing : Addr) : Sp := fun vs H Q E => match vs with
  | [.ref x] => ∃ nm, StAt (tbl C_Shut C_Calling C_Open C_Left C_Leaving C_Waiting C_Closing) H x nm ∧ (∀ nx, nextS nm "begun" = some nx → ∀ y H', Same H H' → StAt (tbl C_Shut C_Calling C_Open C_Left C_Leaving C_Waiting C_Closing) H' y nx → Q (.ref y) H')
  | _ => False
noncomputable def sp_V_ended  (C_Shut : Addr) (C_Calling : Addr) (C_Open : Addr) (C_Left : Addr) (C_Leaving : Addr) (C_Waiting : Addr) (C_Closing : Addr) : Sp := fun vs H Q E => match vs with
  | [.ref x] => ∃ nm, StAt (tbl C_Shut C_Calling C_Open C_Left C_Leaving C_Waiting C_Closing) H x nm ∧ (∀ nx, nextS nm "ended" = some nx → ∀ y H', Same H H' → StAt (tbl C_Shut C_Calling C_Open C_Left C_Leaving C_Waiting C_Closing) H' y nx → Q (.ref y) H')
  | _ => False
noncomputable def sp_V_answered  (C_Shut : Addr) (C_Calling : Addr) (C_Open : Addr) (C_Left : Addr) (C_Leaving : Addr) (C_Waiting : Addr) (C_Closing : Addr) : Sp := fun vs H Q E => match vs with
  | [.ref x] => ∃ nm, StAt (tbl C_Shut C_Calling C_Open C_Left C_Leaving C_Waiting C_Closing) H x nm ∧ (∀ nx, nextS nm "answered" = some nx → ∀ y H', Same H H' → StAt (tbl C_Shut C_Calling C_Open C_Left C_Leaving C_Waiting C_Closing) H' y nx → Q (.ref y) H')
  | _ => False
noncomputable def sp__law_cell_at  (K : PySem.W.Frag) (a₀ : Addr) (ns : List Int) : Sp := fun vs H Q E => match vs with
  | [.ref a, .int k] => a = a₀ ∧ SqL K H a₀ (ns.map V.int) ∧ 0 ≤ k ∧ ∀ n, Q (.int n) H
  | _ => False
noncomputable def nmS (n : Nat) : Str := if n = 0 then "shut" else if n = 1 then "calling" else if n = 2 then "open" else if n = 3 then "left" else if n = 4 then "leaving" else if n = 5 then "waiting" else "closing"
noncomputable def wordOf (j : Nat) : Str := if j % 2 = 0 then "begin" else "end"
theorem n7 {n : Nat} (h : n < 7) : n = 0 ∨ n = 1 ∨ n = 2 ∨ n = 3 ∨ n = 4 ∨ n = 5 ∨ n = 6 := by omega
theorem nx_begin {n : Nat} (h : n < 7) : nextS (nmS n) "begin" = (nBegin n).map nmS := by
  rcases n7 h with rfl | rfl | rfl | rfl | rfl | rfl | rfl <;> decide +kernel
theorem nx_end {n : Nat} (h : n < 7) : nextS (nmS n) "end" = (nEnd n).map nmS := by
  rcases n7 h with rfl | rfl | rfl | rfl | rfl | rfl | rfl <;> decide +kernel
theorem nx_begun {n : Nat} (h : n < 7) : nextS (nmS n) "begun" = some (nmS (nBegun n)) := by
  rcases n7 h with rfl | rfl | rfl | rfl | rfl | rfl | rfl <;> decide +kernel
theorem nx_ended {n : Nat} (h : n < 7) : nextS (nmS n) "ended" = some (nmS (nEnded n)) := by
  rcases n7 h with rfl | rfl | rfl | rfl | rfl | rfl | rfl <;> decide +kernel
theorem nx_answered {n : Nat} (h : n < 7) : nextS (nmS n) "answered" = some (nmS (nAnswered n)) := by
  rcases n7 h with rfl | rfl | rfl | rfl | rfl | rfl | rfl <;> decide +kernel
theorem nm_shut {n : Nat} (h : n < 7) : (nmS n = "shut") ↔ n = 0 := by
  rcases n7 h with rfl | rfl | rfl | rfl | rfl | rfl | rfl <;> decide +kernel
theorem nm_may {n : Nat} (h : n < 7) : (mayB (nmS n) = true) ↔ (n = 1 ∨ n = 2 ∨ n = 3) := by
  rcases n7 h with rfl | rfl | rfl | rfl | rfl | rfl | rfl <;> decide +kernel
theorem in3 {nm : Str} : inV (.str nm) [.str "calling", .str "open", .str "left"] = mayB nm := by
  have e : ∀ a : Str, (a == nm) = decide (nm = a) := fun a => by
    by_cases c : nm = a
    · rw [decide_eq_true c, c]; simp
    · rw [decide_eq_false c]; exact beq_eq_false_iff_ne.mpr (Ne.symm c)
  show ((_ == nm) || ((_ == nm) || ((_ == nm) || false))) = _
  rw [e, e, e, Bool.or_false, ← Bool.or_assoc]
  rfl
noncomputable def PutT (H : Hp) (q : Addr) (m : Nat) (f : Nat → Nat) : Prop := ∃ cs : List Addr, H q = some (.lst (cs.map V.ref)) ∧ cs.length = m ∧ ∀ j c, cs[j]? = some c → H c = some (.tup [.str (wordOf j), .int (f j : Nat)])
theorem PutT.same {H H' : Hp} {q : Addr} {m : Nat} {f : Nat → Nat} (h : PutT H q m f) (s : Same H H') : PutT H' q m f := by
  obtain ⟨cs, h1, h2, h3⟩ := h
  exact ⟨cs, s _ _ h1, h2, fun j c e => s _ _ (h3 j c e)⟩
theorem PutT.wr {H : Hp} {q a : Addr} {m : Nat} {f : Nat → Nat} {l l' : List V} (h : PutT H q m f) (ha : H a = some (.lst l)) (n : q ≠ a) : PutT (upd H a (.lst l')) q m f := by
  obtain ⟨cs, h1, h2, h3⟩ := h
  exact ⟨cs, by rw [upd_ne n]; exact h1, h2, fun j c e => by have := h3 j c e; rw [upd_ne (fun z => by rw [z, ha] at this; cases this)]; exact this⟩
theorem StAt.wr {tb : List (Addr × Str)} {H : Hp} {x a : Addr} {nm : Str} {l l' : List V} (h : StAt tb H x nm) (ha : H a = some (.lst l)) : StAt tb (upd H a (.lst l')) x nm := by
  obtain ⟨C, dx, h1, h2⟩ := h
  exact ⟨C, dx, by rw [upd_ne (fun z => by rw [z, ha] at h1; cases h1)]; exact h1, h2⟩
theorem map_ref_inj : ∀ {xs ys : List Addr}, xs.map V.ref = ys.map V.ref → xs = ys
  | [], [], _ => rfl
  | [], _ :: _, h => by cases h
  | _ :: _, [], h => by cases h
  | x :: xs, y :: ys, h => by
    injection h with h1 h2
    injection h1 with h1
    rw [h1, map_ref_inj h2]
noncomputable def qq (q0 q1 : Addr) (i : Nat) : Addr := if i = 0 then q0 else q1
structure Ht (tb : List (Addr × Str)) (H : Hp) (ps pp pt pk q0 q1 : Addr) (x : Nat → Addr) (n p T K : Nat → Nat) (h : Nat → Nat → Nat) : Prop where
  hs : H ps = some (.lst [.ref (x 0), .ref (x 1)])
  st : ∀ i < 2, StAt tb H (x i) (nmS (n i))
  hp : H pp = some (.lst [.ref q0, .ref q1])
  hq : ∀ i < 2, PutT H (qq q0 q1 i) (p i) (h i)
  ht : H pt = some (.lst [.int (T 0 : Nat), .int (T 1 : Nat)])
  hk : H pk = some (.lst [.int (K 0 : Nat), .int (K 1 : Nat)])
  nd : [ps, pp, pt, pk, q0, q1].Nodup
theorem Ht.ne {tb : List (Addr × Str)} {H : Hp} {ps pp pt pk q0 q1 : Addr} {x : Nat → Addr} {n p T K : Nat → Nat} {h : Nat → Nat → Nat} (a : Ht tb H ps pp pt pk q0 q1 x n p T K h) :
    ps ≠ pp ∧ ps ≠ pt ∧ ps ≠ pk ∧ ps ≠ q0 ∧ ps ≠ q1 ∧ pp ≠ pt ∧ pp ≠ pk ∧ pp ≠ q0 ∧ pp ≠ q1 ∧ pt ≠ pk ∧ pt ≠ q0 ∧ pt ≠ q1 ∧ pk ≠ q0 ∧ pk ≠ q1 ∧ q0 ≠ q1 := by
  have := a.nd
  simp only [List.nodup_cons, List.mem_cons, List.not_mem_nil, or_false, not_or, List.nodup_nil, and_true, not_false_eq_true] at this
  obtain ⟨⟨a1, a2, a3, a4, a5⟩, ⟨b1, b2, b3, b4⟩, ⟨c1, c2, c3⟩, ⟨d1, d2⟩, e1⟩ := this
  exact ⟨a1, a2, a3, a4, a5, b1, b2, b3, b4, c1, c2, c3, d1, d2, e1⟩
section
variable {tb : List (Addr × Str)} {H H' : Hp} {ps pp pt pk q0 q1 : Addr} {x : Nat → Addr} {n p T K : Nat → Nat} {h : Nat → Nat → Nat}
theorem Ht.same (a : Ht tb H ps pp pt pk q0 q1 x n p T K h) (s : Same H H') : Ht tb H' ps pp pt pk q0 q1 x n p T K h :=
  ⟨s _ _ a.hs, fun i hi => (a.st i hi).same s, s _ _ a.hp, fun i hi => (a.hq i hi).same s, s _ _ a.ht, s _ _ a.hk, a.nd⟩
theorem qq_ne {b : Addr} (h0 : b ≠ q0) (h1 : b ≠ q1) (i : Nat) : qq q0 q1 i ≠ b := by unfold qq; split <;> exact Ne.symm ‹_›
theorem set2 {g : Nat → V} {i : Nat} {v : V} (hi : i < 2) : [g 0, g 1].set i v = [up g i v 0, up g i v 1] := by
  rcases (show i = 0 ∨ i = 1 by omega) with rfl | rfl <;> rfl
theorem at2 {g : Nat → V} {i : Nat} (hi : i < 2) : atI [g 0, g 1] (i : Int) = some (g i) := by
  rcases (show i = 0 ∨ i = 1 by omega) with rfl | rfl
  · exact atI_n (i := 0) rfl
  · exact atI_n (i := 1) rfl
theorem atq {i : Nat} (hi : i < 2) : atI [V.ref q0, V.ref q1] (i : Int) = some (.ref (qq q0 q1 i)) := by
  rcases (show i = 0 ∨ i = 1 by omega) with rfl | rfl
  · exact atI_n (i := 0) rfl
  · exact atI_n (i := 1) rfl
theorem upV {α : Type} {g : Nat → α} {f : α → V} {i k : Nat} {v : α} : up (fun k => f (g k)) i (f v) k = f (up g i v k) := by unfold up; split <;> rfl
theorem Ht.wrS (a : Ht tb H ps pp pt pk q0 q1 x n p T K h) {i m : Nat} {y : Addr} (hi : i < 2) (hy : StAt tb H y (nmS m)) : Ht tb (upd H ps (.lst ([V.ref (x 0), V.ref (x 1)].set i (.ref y)))) ps pp pt pk q0 q1 (up x i y) (up n i m) p T K h := by
  obtain ⟨a1, a2, a3, a4, a5, b1, b2, b3, b4, c1, c2, c3, d1, d2, e1⟩ := a.ne
  refine ⟨?_, fun k hk => ?_, by rw [upd_ne (Ne.symm a1)]; exact a.hp, fun k hk => (a.hq k hk).wr a.hs (qq_ne a4 a5 k), by rw [upd_ne (Ne.symm a2)]; exact a.ht, by rw [upd_ne (Ne.symm a3)]; exact a.hk, a.nd⟩
  · rw [upd_same, set2 (g := fun k => V.ref (x k)) hi, upV, upV]
  · by_cases c : k = i
    · subst c; rw [up_same, up_same]; exact hy.wr a.hs
    · rw [up_ne c, up_ne c]; exact (a.st k hk).wr a.hs
theorem Ht.wrT (a : Ht tb H ps pp pt pk q0 q1 x n p T K h) {i m : Nat} (hi : i < 2) : Ht tb (upd H pt (.lst ([V.int (T 0 : Nat), V.int (T 1 : Nat)].set i (.int (m : Nat))))) ps pp pt pk q0 q1 x n p (up T i m) K h := by
  obtain ⟨a1, a2, a3, a4, a5, b1, b2, b3, b4, c1, c2, c3, d1, d2, e1⟩ := a.ne
  refine ⟨by rw [upd_ne a2]; exact a.hs, fun k hk => (a.st k hk).wr a.ht, by rw [upd_ne b1]; exact a.hp, fun k hk => (a.hq k hk).wr a.ht (qq_ne c2 c3 k), ?_, by rw [upd_ne (Ne.symm c1)]; exact a.hk, a.nd⟩
  rw [upd_same, set2 (g := fun k => V.int (T k : Nat)) hi, upV (f := fun k : Nat => V.int (k : Int)), upV (f := fun k : Nat => V.int (k : Int))]
theorem Ht.wrK (a : Ht tb H ps pp pt pk q0 q1 x n p T K h) {i m : Nat} (hi : i < 2) : Ht tb (upd H pk (.lst ([V.int (K 0 : Nat), V.int (K 1 : Nat)].set i (.int (m : Nat))))) ps pp pt pk q0 q1 x n p T (up K i m) h := by
  obtain ⟨a1, a2, a3, a4, a5, b1, b2, b3, b4, c1, c2, c3, d1, d2, e1⟩ := a.ne
  refine ⟨by rw [upd_ne a3]; exact a.hs, fun k hk => (a.st k hk).wr a.hk, by rw [upd_ne b2]; exact a.hp, fun k hk => (a.hq k hk).wr a.hk (qq_ne d1 d2 k), by rw [upd_ne c1]; exact a.ht, ?_, a.nd⟩
  rw [upd_same, set2 (g := fun k => V.int (K k : Nat)) hi, upV (f := fun k : Nat => V.int (k : Int)), upV (f := fun k : Nat => V.int (k : Int))]
theorem Ht.app (a : Ht tb H ps pp pt pk q0 q1 x n p T K h) {i v : Nat} {c : Addr} {cs : List Addr} (hi : i < 2) (hc : H c = some (.tup [.str (wordOf (p i)), .int (v : Nat)])) (hl : H (qq q0 q1 i) = some (.lst (cs.map V.ref))) :
    Ht tb (upd H (qq q0 q1 i) (.lst (cs.map V.ref ++ [.ref c]))) ps pp pt pk q0 q1 x n (up p i (p i + 1)) T K (up h i (up (h i) (p i) v)) := by
  obtain ⟨a1, a2, a3, a4, a5, b1, b2, b3, b4, c1, c2, c3, d1, d2, e1⟩ := a.ne
  have nq : ∀ {k : Nat}, k < 2 → k ≠ i → qq q0 q1 k ≠ qq q0 q1 i := fun {k} hk hn => by
    unfold qq
    rcases (show (k = 0 ∧ i = 1) ∨ (k = 1 ∧ i = 0) by omega) with ⟨rfl, rfl⟩ | ⟨rfl, rfl⟩
    · exact e1
    · exact Ne.symm e1
  refine ⟨by rw [upd_ne (Ne.symm (qq_ne a4 a5 i))]; exact a.hs, fun k hk => (a.st k hk).wr hl, by rw [upd_ne (Ne.symm (qq_ne b3 b4 i))]; exact a.hp, fun k hk => ?_, by rw [upd_ne (Ne.symm (qq_ne c2 c3 i))]; exact a.ht, by rw [upd_ne (Ne.symm (qq_ne d1 d2 i))]; exact a.hk, a.nd⟩
  by_cases e : k = i
  · subst e
    obtain ⟨cs', h1, h2, h3⟩ := a.hq k hk
    rw [hl] at h1
    have ec : cs = cs' := map_ref_inj (by injection h1 with h1; injection h1)
    subst ec
    rw [up_same, up_same]
    refine ⟨cs ++ [c], by rw [upd_same, List.map_append]; rfl, by rw [List.length_append, h2]; rfl, fun j c' ej => ?_⟩
    have nl : ∀ {d : Addr} {ts : List V}, H d = some (.tup ts) → upd H (qq q0 q1 k) (.lst (cs.map V.ref ++ [.ref c])) d = some (.tup ts) := fun {d ts} u => by rw [upd_ne (fun z => by rw [z, hl] at u; cases u)]; exact u
    by_cases cj : j = p k
    · subst cj
      rw [up_same]
      rw [List.getElem?_append_right (by omega), h2, Nat.sub_self] at ej
      cases ej
      exact nl hc
    · rw [up_ne cj]
      have lj : j < cs.length := by
        have := (List.getElem?_eq_some_iff.mp ej).1
        rw [List.length_append, List.length_singleton] at this
        omega
      rw [List.getElem?_append_left lj] at ej
      exact nl (h3 j c' ej)
  · rw [up_ne e, up_ne e]
    exact (a.hq k hk).wr hl (nq hk e)
end
theorem cut_toV {xs : List V} {n : Nat} : cutV xs none (some (n : Int)) = xs.take n := by
  unfold cutV
  rw [HT.sIx_none, HT.sIx_nat, List.drop_zero, Nat.sub_zero]
  by_cases h : n ≤ xs.length
  · rw [Nat.min_eq_left h]
  · rw [Nat.min_eq_right (by omega), List.take_length, List.take_of_length_le (by omega)]
theorem PutT.cut {K : PySem.W.Frag} {H : Hp} {q : Addr} {m k : Nat} {f : Nat → Nat} {Q : VK} (h : PutT H q m f) (hk : k ≤ m) (z : ∀ p1, H p1 = none → ∀ H', Same H H' → PutT H' p1 k f → Q (.ref p1) H') : rSlA K (.ref q) none (some (k : Int)) H Q := by
  obtain ⟨cs, h1, h2, h3⟩ := h
  refine rSlA_list (SqL.of h1) fun p1 n1 => ?_
  rw [cut_toV, ← List.map_take]
  refine z p1 n1 _ (same_upd n1) ⟨cs.take k, upd_same, by rw [List.length_take]; omega, fun j c ec => same_upd n1 _ _ (h3 j c ?_)⟩
  rw [List.getElem?_take] at ec
  split at ec
  · exact ec
  · cases ec
theorem eqT5 {K : PySem.W.Frag} {H : Hp} {Q : VK} {p q : Addr} {a1 a2 a3 a4 a5 b1 b2 b3 b4 b5 : Int} (hp : H p = some (.tup [.int a1, .int a2, .int a3, .int a4, .int a5])) (hq : H q = some (.tup [.int b1, .int b2, .int b3, .int b4, .int b5]))
    (h : if a1 = b1 ∧ a2 = b2 ∧ a3 = b3 ∧ a4 = b4 ∧ a5 = b5 then Q (.bl true) H else Q (.bl false) H) : rEqX K false (.ref p) (.ref q) H Q := by
  refine ⟨1, _, _, by decide, dn_tup hp (.cons dn_int (.cons dn_int (.cons dn_int (.cons dn_int (.cons dn_int .nil))))), dn_tup hq (.cons dn_int (.cons dn_int (.cons dn_int (.cons dn_int (.cons dn_int .nil))))), ?_⟩
  split at h
  · rename_i c
    obtain ⟨rfl, rfl, rfl, rfl, rfl⟩ := c
    exact .inl ⟨rfl, h⟩
  · rename_i c
    refine .inr ⟨fun e => c ?_, h⟩
    injection e with e
    simpa using e
theorem sq_fr {K : PySem.W.Frag} {H H' : Hp} {a : Addr} {xs : List V} (h : SqL K H a xs) (f : ∀ o, H a = some o → H' a = some o) : SqL K H' a xs := by
  rcases h with (h | ⟨o, h⟩) | h
  · exact .inl (.inl (f _ h))
  · exact .inl (.inr ⟨o, f _ h⟩)
  · exact .inr h
theorem none_of {H H' : Hp} {a : Addr} (s : Same H H') (h : H' a = none) : H a = none := by
  cases e : H a with
  | none => rfl
  | some o => rw [s _ _ e] at h; cases h
theorem cut_163 {ns : List Int} : ∃ cs : List Int, cutV (ns.map V.int) (some 1) (some 63) = cs.map V.int ∧ cs.length ≤ 62 := by
  refine ⟨(ns.drop (min 1 ns.length)).take (min 63 ns.length - min 1 ns.length), ?_, ?_⟩
  · unfold cutV
    rw [show HT.sIx (ns.map V.int).length 0 (some 1) = min 1 (ns.map V.int).length from HT.sIx_nat _ _ 1, show HT.sIx (ns.map V.int).length (ns.map V.int).length (some 63) = min 63 (ns.map V.int).length from HT.sIx_nat _ _ 63, List.length_map, List.map_take, List.map_drop]
  · rw [List.length_take]
    omega
noncomputable def FrJ (ps pt pk q0 q1 : Addr) (H H' : Hp) : Prop := ∀ b o, H b = some o → b ≠ ps → b ≠ pt → b ≠ pk → b ≠ q0 → b ≠ q1 → H' b = some o
theorem FrJ.refl {ps pt pk q0 q1 : Addr} {H : Hp} : FrJ ps pt pk q0 q1 H H := fun _ _ e _ _ _ _ _ => e
theorem FrJ.same {ps pt pk q0 q1 : Addr} {H H' H2 : Hp} (f : FrJ ps pt pk q0 q1 H H') (s : Same H' H2) : FrJ ps pt pk q0 q1 H H2 := fun b o e a1 a2 a3 a4 a5 => s _ _ (f b o e a1 a2 a3 a4 a5)
theorem FrJ.trans {ps pt pk q0 q1 : Addr} {H H' H2 : Hp} (f : FrJ ps pt pk q0 q1 H H') (g : FrJ ps pt pk q0 q1 H' H2) : FrJ ps pt pk q0 q1 H H2 := fun b o e a1 a2 a3 a4 a5 => g b o (f b o e a1 a2 a3 a4 a5) a1 a2 a3 a4 a5
theorem FrJ.wr {ps pt pk q0 q1 a : Addr} {H H' : Hp} {o : HO} (f : FrJ ps pt pk q0 q1 H H') (ha : a = ps ∨ a = pt ∨ a = pk ∨ a = q0 ∨ a = q1) : FrJ ps pt pk q0 q1 H (upd H' a o) := fun b o' e a1 a2 a3 a4 a5 => by
  rw [upd_ne (fun z => by subst z; rcases ha with h | h | h | h | h <;> first | exact a1 h | exact a2 h | exact a3 h | exact a4 h | exact a5 h)]
  exact f b o' e a1 a2 a3 a4 a5
noncomputable def cntW (m : Nat) (wd : Str) : Nat := if wd = "begin" then (m + 1) / 2 else m / 2
noncomputable def sp__law_table  : Sp := fun vs H Q E => match vs with
  | [.int t, .int b, .int e, .int hd, .int o, .int oe] => ∃ p K T t' n, Sd p K T t' n ∧ t = (t' : Nat) ∧ b = ((p + 1) / 2 : Nat) ∧ e = (p / 2 : Nat) ∧ hd = (K / 2 : Nat) ∧ o = ((T + 1) / 2 : Nat) ∧ oe = (T / 2 : Nat) ∧ ∀ H', Same H H' → Q (.str (nmS n)) H'
  | _ => False
noncomputable def sp__law_count  : Sp := fun vs H Q E => match vs with
  | [.ref r, .str wd] => ∃ m f, PutT H r m f ∧ m ≤ 900 ∧ (wd = "begin" ∨ wd = "end") ∧ ∀ H', Same H H' → Q (.int (cntW m wd : Nat)) H'
  | _ => False
noncomputable def sp__law_name  (C_Shut : Addr) (C_Calling : Addr) (C_Open : Addr) (C_Left : Addr) (C_Leaving : Addr) (C_Waiting : Addr) (C_Closing : Addr) : Sp := fun vs H Q E => match vs with
  | [.int i, .ref pp, .ref pt, .ref pk] => ∃ j : Nat, ∃ ps q0 q1 x n p T K h, i = (j : Int) ∧ j < 2 ∧ Ht (tbl C_Shut C_Calling C_Open C_Left C_Leaving C_Waiting C_Closing) H ps pp pt pk q0 q1 x n p T K h ∧ Jn p K T n h ∧ (∀ k < 2, p k ≤ 900) ∧ ∀ H', Same H H' → Q (.str (nmS (n j))) H'
  | _ => False
noncomputable def sp__law_wish  (C_Shut : Addr) (C_Calling : Addr) (C_Open : Addr) (C_Left : Addr) (C_Leaving : Addr) (C_Waiting : Addr) (C_Closing : Addr) : Sp := fun vs H Q E => match vs with
  | [.ref ps, .int i, .str wd, .ref pp, .ref pt] => ∃ j : Nat, ∃ pk q0 q1 x n p T K h, i = (j : Int) ∧ j < 2 ∧ Ht (tbl C_Shut C_Calling C_Open C_Left C_Leaving C_Waiting C_Closing) H ps pp pt pk q0 q1 x n p T K h ∧ Jn p K T n h ∧ p j ≤ 900 ∧ (wd = "begin" ∨ wd = "end") ∧ ∀ H' x' n' p' h', FrJ ps pt pk q0 q1 H H' → Ht (tbl C_Shut C_Calling C_Open C_Left C_Leaving C_Waiting C_Closing) H' ps pp pt pk q0 q1 x' n' p' T K h' → Jn p' K T n' h' → p' (1 - j) = p (1 - j) → (p' j = p j ∨ (p' j = p j + 1 ∧ (wd = "end" → n j = 1 ∨ n j = 2 ∨ n j = 3))) → (wd = "end" → n j = 1 ∨ n j = 2 ∨ n j = 3 → p' j = p j + 1) → Q (.bl true) H'
  | _ => False
noncomputable def sp__law_hear  (C_Shut : Addr) (C_Calling : Addr) (C_Open : Addr) (C_Left : Addr) (C_Leaving : Addr) (C_Waiting : Addr) (C_Closing : Addr) : Sp := fun vs H Q E => match vs with
  | [.ref ps, .int i, .ref pp, .ref pk, .int m] => ∃ j many : Nat, ∃ pt q0 q1 x n p T K h, i = (j : Int) ∧ j < 2 ∧ m = (many : Int) ∧ Ht (tbl C_Shut C_Calling C_Open C_Left C_Leaving C_Waiting C_Closing) H ps pp pt pk q0 q1 x n p T K h ∧ Jn p K T n h ∧ many ≤ T (1 - j) ∧ ∀ H' x' n' K', FrJ ps pt pk q0 q1 H H' → Ht (tbl C_Shut C_Calling C_Open C_Left C_Leaving C_Waiting C_Closing) H' ps pp pt pk q0 q1 x' n' p T K' h → Jn p K' T n' h → K' j = max (K j) many → K' (1 - j) = K (1 - j) → Q .non H'
  | _ => False
noncomputable def sp__law_take  (C_Shut : Addr) (C_Calling : Addr) (C_Open : Addr) (C_Left : Addr) (C_Leaving : Addr) (C_Waiting : Addr) (C_Closing : Addr) : Sp := fun vs H Q E => match vs with
  | [.ref ps, .int i, .ref pp, .ref pt, .ref pk] => ∃ j : Nat, ∃ q0 q1 x n p T K h, i = (j : Int) ∧ j < 2 ∧ Ht (tbl C_Shut C_Calling C_Open C_Left C_Leaving C_Waiting C_Closing) H ps pp pt pk q0 q1 x n p T K h ∧ Jn p K T n h ∧ p j ≤ 900 ∧ ∀ H' x' n' p' T' K' h', FrJ ps pt pk q0 q1 H H' → Ht (tbl C_Shut C_Calling C_Open C_Left C_Leaving C_Waiting C_Closing) H' ps pp pt pk q0 q1 x' n' p' T' K' h' → Jn p' K' T' n' h' → p' (1 - j) = p (1 - j) → T' (1 - j) = T (1 - j) → K' (1 - j) = K (1 - j) → (p' j = p j ∨ (p' j = p j + 1 ∧ p j < p (1 - j))) → T j ≤ T' j → (T j < p (1 - j) → T j < T' j) → Q .non H'
  | _ => False
noncomputable def sp__law_right  (C_Shut : Addr) (C_Calling : Addr) (C_Open : Addr) (C_Left : Addr) (C_Leaving : Addr) (C_Waiting : Addr) (C_Closing : Addr) : Sp := fun vs H Q E => match vs with
  | [.ref ps, .ref pp, .ref pt, .ref pk] => ∃ q0 q1 x n p T K h, Ht (tbl C_Shut C_Calling C_Open C_Left C_Leaving C_Waiting C_Closing) H ps pp pt pk q0 q1 x n p T K h ∧ Jn p K T n h ∧ (∀ k < 2, p k ≤ 900) ∧ ∀ H', Same H H' → Q (.bl true) H'
  | _ => False
noncomputable def sp__law_calm  (C_Shut : Addr) (C_Calling : Addr) (C_Open : Addr) (C_Left : Addr) (C_Leaving : Addr) (C_Waiting : Addr) (C_Closing : Addr) : Sp := fun vs H Q E => match vs with
  | [.ref ps, .ref pp, .ref pt, .ref pk] => ∃ q0 q1 x n p T K h, Ht (tbl C_Shut C_Calling C_Open C_Left C_Leaving C_Waiting C_Closing) H ps pp pt pk q0 q1 x n p T K h ∧ Jn p K T n h ∧ (∀ k < 2, p k ≤ 100) ∧ ∀ H', Q (.bl true) H'
  | _ => False
set_option compiler.extract_closed false in
local macro_rules | `(tactic| exists $es,*) => `(tactic| simp only [tRet, tRetN, tOp, tUn, tVar, tC, tAsg, gName, tSeq, tNext, tBreak, tCont, tIfS, tTest, tB, tNot, tAnd, tOr, tCall, tCons, tNil, tCB, tChain, tAndV, tOrV, tNotV, tIf, tDrop, tSl, tNoPart, tPart, rI0_int, rI_int, rU_int, ex_bl, ex_sv, rEq_int, rNe_int, rEq_str, rNe_str, rEq_bl, rNe_bl, rAddA_int, rAddA_str, rLenA_ref, rLenA_str, rIsi_ii, rIsi_ib, rIsi_is, rIsi_bi, rIsi_bb, rIsi_ss, rIsi_si, rMinA_int, rMaxA_int, rEqA_int, rNeA_int, rEqA_str, rNeA_str, rEqA_bl, rNeA_bl, rIsB_bl, rIsnotB_bl, rIsN_f, rIsN_t, tBM0, tBM, tyV_int, tyV_str, rBitlen_int, rSlA_str, rInA_str, rInA_ref, tFor_seq, tFor_rng1, tFor_rng2, tFor_rng3, tComp_seq, tComp_rng1, tComp_rng2, tComp_rng3, rngR1_int, rngR2_int, rngR3_int, compSt_one, rAll_ref, rAny_ref, rSum_ref, rListA_ref, rTupleA_ref, rDivmodA_int, rAppendA_ref, rSetA_ref, tTup, tLst, tCs, tTC, gTup_ref, gCons_cons, gNil_nil, gSub, tYes, tDrop, small_line, small_lt, Option.join_some, CDiv, CPowA, CMul, cxOf_K, ex_int,
  L2.start, List.map_cons, List.map_nil, List.length_cons, List.length_nil, List.replicate_zero, List.replicate_succ, List.append_nil, List.nil_append, List.cons_append, List.getElem?_cons_zero, List.getElem?_cons_succ, List.set_cons_zero, List.set_cons_succ, decide_eq_true_eq, Bool.not_eq_true', decide_eq_false_iff_not, if_true, if_false, ite_true, ite_false, Bool.false_eq_true, true_and, and_true, Bool.not_true, Bool.not_false, Int.reduceLT, Int.reduceLE, Int.reducePow, Int.reduceToNat, Int.reduceAdd, Int.reduceSub, Int.reduceMul, Int.reduceNeg, Nat.reducePow, Nat.reduceLT, Nat.reduceLeDiff, true_or, or_true, Int.reduceEq, and_self, Nat.reduceAdd, Nat.reduceSub, Int.neg_neg, reduceCtorEq, not_true_eq_false, not_false_eq_true,
  sp_NotNow___init__, sp_Shut_name, sp_Calling_name, sp_Open_name, sp_Left_name, sp_Leaving_name, sp_Waiting_name, sp_Closing_name, sp_Shut_wish_begin, sp_Calling_wish_end, sp_Open_wish_end, sp_Left_wish_end, sp_Shut_begun, sp_Calling_begun, sp_Open_ended, sp_Leaving_ended, sp_Waiting_ended, sp_Leaving_answered, sp_Closing_answered, sp_State_begun, sp_State_ended, sp_State_answered, sp_State_wish_begin, sp_State_wish_end, sp_V_name, sp_V_wish_begin, sp_V_wish_end, sp_V_begun, sp_V_ended, sp_V_answered, sp__law_cell_at, sp__law_table, sp__law_count, sp__law_name, sp__law_wish, sp__law_hear, sp__law_take, sp__law_right, sp__law_calm, tMkN, tMtV, tMtVS, tHn, rIsiO_ref, ex_ins, upd_same, upd_upd, sFldX2, tTry, tHc, tH0, hx2_t, hx2_f, tCallS, tMakeS, tMtS, Ends.un, tRaise0, tRaiseI, sFldX, tFldX, rFldX_ref, ex_exf, ex_exc, ex_xd, ex_xd1, rEqX_int, rNeX_int, rEqX_str, rNeX_str, rEqX_bl, rNeX_bl, isbO_some, xdOk_n, xdOk_s, rIsiX_ref, rIsiX_ty, gTupX_ref, gOx_tup, gOx_lst, $[$es:term],*])
local macro_rules | `(tactic| walk_at "wps") => `(tactic| exists true_and)
section
variable {C_RoadError C_NotNow C_State C_Shut C_Calling C_Open C_Left C_Leaving C_Waiting C_Closing : Addr} {P : Program} {w : World} {K : PySem.W.Frag} {mg : Str → Option Value} {base : Heap}
theorem ok__law_cell_at (T : Txt K mg C_RoadError C_NotNow C_State C_Shut C_Calling C_Open C_Left C_Leaving C_Waiting C_Closing)  (a₀ : Addr) (ns : List Int) : FnAt P w K mg base (CX1 P w) "_law_cell_at" 1 ["_law_script", "_law_k"] (sp__law_cell_at K a₀ ns) := by
  refine T.d__law_cell_at.fn sc__law_cell_at bd__law_cell_at (fun vs H Q E h => ?_) fun f cdv A outer s H vs Q E HR h => ?_
  · unfold sp__law_cell_at at h; split at h <;> first | rfl | exact h.elim
  · unfold sp__law_cell_at at h
    split at h
    · rename_i a k
      refine ⟨_, (pss_cons (ps_if (pt_cmpR op_lt (pv 1) (pe_callBQ (call_lenK K rfl) (by rfl) T.b_len bt_len (pa_q (pv 0) pa_nil)) (nomark _)) (pss_one (ps_ret (pe_ix (ix_K K rfl) (pv 0) (pv 1) (fun _ _ => rfl)))) pss_nil)
  (pss_one (ps_ret pe_int))), ?_⟩
      obtain ⟨rfl, hS, h0, q⟩ := h
      walk_at "wps"
      refine ⟨_, .inl hS, ?_⟩
      rw [List.length_map]
      split
      · rename_i c; exact ixA_ints hS h0 c (q _)
      · exact q _
    · exact h.elim
theorem ok_NotNow___init__ (T : Txt K mg C_RoadError C_NotNow C_State C_Shut C_Calling C_Open C_Left C_Leaving C_Waiting C_Closing)  : MtAt P w K mg base (CX1 P w) C_NotNow "__init__" 1 ["self", "state", "wish"] (sp_NotNow___init__ C_NotNow) := by
  refine T.d_NotNow___init__.fn sc_NotNow___init__ bd_NotNow___init__ (fun vs H Q E h => ?_) fun f cdv A outer s H vs Q E HR h => ?_
  · unfold sp_NotNow___init__ at h; split at h <;> first | rfl | exact h.elim
  · unfold sp_NotNow___init__ at h
    split at h
    · rename_i e v u
      refine ⟨_, (pss_cons (ps_fldXQ T.x_NotNow T.xf_NotNow_state (pv 0) (pv 1))
  (pss_one (ps_fldX2 T.x_NotNow T.xf_NotNow_wish (pv 0) (pv 2)))), ?_⟩
      obtain ⟨he, q⟩ := h
      exists he
      refine ⟨e, rfl, he, fun d hd => ?_⟩
      have nd : d ≠ e := fun z => by rw [z, he] at hd; cases hd
      refine ⟨e, rfl, d, [(("state" : Str), v)], upd_same, by rw [upd_ne nd]; exact upd_same, rfl, (show 1 < 1000 by decide), ?_⟩
      have e2 : upd (upd (upd H d (.xd [("state", v)])) e (.ext (exN e C_NotNow (some d)))) d (.xd ([(("state" : Str), v)] ++ [(("wish" : Str), u)])) = upd (upd H d (.xd [("state", v), ("wish", u)])) e (.ext (exN e C_NotNow (some d))) := by
        funext z
        by_cases c1 : z = d
        · subst c1
          rw [upd_same, upd_ne nd, upd_same]; rfl
        · rw [upd_ne c1]
          by_cases c2 : z = e
          · subst c2; rw [upd_same, upd_same]
          · rw [upd_ne c2, upd_ne c1, upd_ne c2, upd_ne c1]
      rw [e2]
      exact q d hd
    · exact h.elim
theorem ok_Shut_name (T : Txt K mg C_RoadError C_NotNow C_State C_Shut C_Calling C_Open C_Left C_Leaving C_Waiting C_Closing)  : MtAt P w K mg base (CX1 P w) C_Shut "name" 1 ["self"] sp_Shut_name := by
  refine T.d_Shut_name.fn sc_Shut_name bd_Shut_name (fun vs H Q E h => ?_) fun f cdv A outer s H vs Q E HR h => ?_
  · unfold sp_Shut_name at h; split at h <;> first | rfl | exact h.elim
  · unfold sp_Shut_name at h
    split at h
    · rename_i x
      refine ⟨_, (pss_one (ps_ret pe_str)), ?_⟩
      walk_at "wps"
      exact h
    · exact h.elim
theorem ok_Calling_name (T : Txt K mg C_RoadError C_NotNow C_State C_Shut C_Calling C_Open C_Left C_Leaving C_Waiting C_Closing)  : MtAt P w K mg base (CX1 P w) C_Calling "name" 1 ["self"] sp_Calling_name := by
  refine T.d_Calling_name.fn sc_Calling_name bd_Calling_name (fun vs H Q E h => ?_) fun f cdv A outer s H vs Q E HR h => ?_
  · unfold sp_Calling_name at h; split at h <;> first | rfl | exact h.elim
  · unfold sp_Calling_name at h
    split at h
    · rename_i x
      refine ⟨_, (pss_one (ps_ret pe_str)), ?_⟩
      walk_at "wps"
      exact h
    · exact h.elim
theorem ok_Open_name (T : Txt K mg C_RoadError C_NotNow C_State C_Shut C_Calling C_Open C_Left C_Leaving C_Waiting C_Closing)  : MtAt P w K mg base (CX1 P w) C_Open "name" 1 ["self"] sp_Open_name := by
  refine T.d_Open_name.fn sc_Open_name bd_Open_name (fun vs H Q E h => ?_) fun f cdv A outer s H vs Q E HR h => ?_
  · unfold sp_Open_name at h; split at h <;> first | rfl | exact h.elim
  · unfold sp_Open_name at h
    split at h
    · rename_i x
      refine ⟨_, (pss_one (ps_ret pe_str)), ?_⟩
      walk_at "wps"
      exact h
    · exact h.elim
theorem ok_Left_name (T : Txt K mg C_RoadError C_NotNow C_State C_Shut C_Calling C_Open C_Left C_Leaving C_Waiting C_Closing)  : MtAt P w K mg base (CX1 P w) C_Left "name" 1 ["self"] sp_Left_name := by
  refine T.d_Left_name.fn sc_Left_name bd_Left_name (fun vs H Q E h => ?_) fun f cdv A outer s H vs Q E HR h => ?_
  · unfold sp_Left_name at h; split at h <;> first | rfl | exact h.elim
  · unfold sp_Left_name at h
    split at h
    · rename_i x
      refine ⟨_, (pss_one (ps_ret pe_str)), ?_⟩
      walk_at "wps"
      exact h
    · exact h.elim
theorem ok_Leaving_name (T : Txt K mg C_RoadError C_NotNow C_State C_Shut C_Calling C_Open C_Left C_Leaving C_Waiting C_Closing)  : MtAt P w K mg base (CX1 P w) C_Leaving "name" 1 ["self"] sp_Leaving_name := by
  refine T.d_Leaving_name.fn sc_Leaving_name bd_Leaving_name (fun vs H Q E h => ?_) fun f cdv A outer s H vs Q E HR h => ?_
  · unfold sp_Leaving_name at h; split at h <;> first | rfl | exact h.elim
  · unfold sp_Leaving_name at h
    split at h
    · rename_i x
      refine ⟨_, (pss_one (ps_ret pe_str)), ?_⟩
      walk_at "wps"
      exact h
    · exact h.elim
theorem ok_Waiting_name (T : Txt K mg C_RoadError C_NotNow C_State C_Shut C_Calling C_Open C_Left C_Leaving C_Waiting C_Closing)  : MtAt P w K mg base (CX1 P w) C_Waiting "name" 1 ["self"] sp_Waiting_name := by
  refine T.d_Waiting_name.fn sc_Waiting_name bd_Waiting_name (fun vs H Q E h => ?_) fun f cdv A outer s H vs Q E HR h => ?_
  · unfold sp_Waiting_name at h; split at h <;> first | rfl | exact h.elim
  · unfold sp_Waiting_name at h
    split at h
    · rename_i x
      refine ⟨_, (pss_one (ps_ret pe_str)), ?_⟩
      walk_at "wps"
      exact h
    · exact h.elim
theorem ok_Closing_name (T : Txt K mg C_RoadError C_NotNow C_State C_Shut C_Calling C_Open C_Left C_Leaving C_Waiting C_Closing)  : MtAt P w K mg base (CX1 P w) C_Closing "name" 1 ["self"] sp_Closing_name := by
  refine T.d_Closing_name.fn sc_Closing_name bd_Closing_name (fun vs H Q E h => ?_) fun f cdv A outer s H vs Q E HR h => ?_
  · unfold sp_Closing_name at h; split at h <;> first | rfl | exact h.elim
  · unfold sp_Closing_name at h
    split at h
    · rename_i x
      refine ⟨_, (pss_one (ps_ret pe_str)), ?_⟩
      walk_at "wps"
      exact h
    · exact h.elim
theorem ok_Shut_wish_begin (T : Txt K mg C_RoadError C_NotNow C_State C_Shut C_Calling C_Open C_Left C_Leaving C_Waiting C_Closing)        : MtAt P w K mg base (CX1 P w) C_Shut "wish_begin" 1 ["self"] (sp_Shut_wish_begin C_Shut C_Calling C_Open C_Left C_Leaving C_Waiting C_Closing) := by
  refine T.d_Shut_wish_begin.fn sc_Shut_wish_begin bd_Shut_wish_begin (fun vs H Q E h => ?_) fun f cdv A outer s H vs Q E HR h => ?_
  · unfold sp_Shut_wish_begin at h; split at h <;> first | rfl | exact h.elim
  · unfold sp_Shut_wish_begin at h
    split at h
    · rename_i x
      refine ⟨_, (pss_one (ps_ret (pe_mkN T.k_Calling T.ni_Calling rfl))), ?_⟩
      walk_at "wps"
      exact fun y dx ny nd _ => h y _ (same_new ny nd) ⟨_, dx, upd_same, .tail _ (.head _)⟩
    · exact h.elim
theorem ok_Calling_wish_end (T : Txt K mg C_RoadError C_NotNow C_State C_Shut C_Calling C_Open C_Left C_Leaving C_Waiting C_Closing)        : MtAt P w K mg base (CX1 P w) C_Calling "wish_end" 1 ["self"] (sp_Calling_wish_end C_Shut C_Calling C_Open C_Left C_Leaving C_Waiting C_Closing) := by
  refine T.d_Calling_wish_end.fn sc_Calling_wish_end bd_Calling_wish_end (fun vs H Q E h => ?_) fun f cdv A outer s H vs Q E HR h => ?_
  · unfold sp_Calling_wish_end at h; split at h <;> first | rfl | exact h.elim
  · unfold sp_Calling_wish_end at h
    split at h
    · rename_i x
      refine ⟨_, (pss_one (ps_ret (pe_mkN T.k_Leaving T.ni_Leaving rfl))), ?_⟩
      walk_at "wps"
      exact fun y dx ny nd _ => h y _ (same_new ny nd) ⟨_, dx, upd_same, .tail _ (.tail _ (.tail _ (.tail _ (.head _))))⟩
    · exact h.elim
theorem ok_Open_wish_end (T : Txt K mg C_RoadError C_NotNow C_State C_Shut C_Calling C_Open C_Left C_Leaving C_Waiting C_Closing)        : MtAt P w K mg base (CX1 P w) C_Open "wish_end" 1 ["self"] (sp_Open_wish_end C_Shut C_Calling C_Open C_Left C_Leaving C_Waiting C_Closing) := by
  refine T.d_Open_wish_end.fn sc_Open_wish_end bd_Open_wish_end (fun vs H Q E h => ?_) fun f cdv A outer s H vs Q E HR h => ?_
  · unfold sp_Open_wish_end at h; split at h <;> first | rfl | exact h.elim
  · unfold sp_Open_wish_end at h
    split at h
    · rename_i x
      refine ⟨_, (pss_one (ps_ret (pe_mkN T.k_Leaving T.ni_Leaving rfl))), ?_⟩
      walk_at "wps"
      exact fun y dx ny nd _ => h y _ (same_new ny nd) ⟨_, dx, upd_same, .tail _ (.tail _ (.tail _ (.tail _ (.head _))))⟩
    · exact h.elim
theorem ok_Left_wish_end (T : Txt K mg C_RoadError C_NotNow C_State C_Shut C_Calling C_Open C_Left C_Leaving C_Waiting C_Closing)        : MtAt P w K mg base (CX1 P w) C_Left "wish_end" 1 ["self"] (sp_Left_wish_end C_Shut C_Calling C_Open C_Left C_Leaving C_Waiting C_Closing) := by
  refine T.d_Left_wish_end.fn sc_Left_wish_end bd_Left_wish_end (fun vs H Q E h => ?_) fun f cdv A outer s H vs Q E HR h => ?_
  · unfold sp_Left_wish_end at h; split at h <;> first | rfl | exact h.elim
  · unfold sp_Left_wish_end at h
    split at h
    · rename_i x
      refine ⟨_, (pss_one (ps_ret (pe_mkN T.k_Closing T.ni_Closing rfl))), ?_⟩
      walk_at "wps"
      exact fun y dx ny nd _ => h y _ (same_new ny nd) ⟨_, dx, upd_same, .tail _ (.tail _ (.tail _ (.tail _ (.tail _ (.tail _ (.head _))))))⟩
    · exact h.elim
theorem ok_Shut_begun (T : Txt K mg C_RoadError C_NotNow C_State C_Shut C_Calling C_Open C_Left C_Leaving C_Waiting C_Closing)        : MtAt P w K mg base (CX1 P w) C_Shut "begun" 1 ["self"] (sp_Shut_begun C_Shut C_Calling C_Open C_Left C_Leaving C_Waiting C_Closing) := by
  refine T.d_Shut_begun.fn sc_Shut_begun bd_Shut_begun (fun vs H Q E h => ?_) fun f cdv A outer s H vs Q E HR h => ?_
  · unfold sp_Shut_begun at h; split at h <;> first | rfl | exact h.elim
  · unfold sp_Shut_begun at h
    split at h
    · rename_i x
      refine ⟨_, (pss_one (ps_ret (pe_mkN T.k_Open T.ni_Open rfl))), ?_⟩
      walk_at "wps"
      exact fun y dx ny nd _ => h y _ (same_new ny nd) ⟨_, dx, upd_same, .tail _ (.tail _ (.head _))⟩
    · exact h.elim
theorem ok_Calling_begun (T : Txt K mg C_RoadError C_NotNow C_State C_Shut C_Calling C_Open C_Left C_Leaving C_Waiting C_Closing)        : MtAt P w K mg base (CX1 P w) C_Calling "begun" 1 ["self"] (sp_Calling_begun C_Shut C_Calling C_Open C_Left C_Leaving C_Waiting C_Closing) := by
  refine T.d_Calling_begun.fn sc_Calling_begun bd_Calling_begun (fun vs H Q E h => ?_) fun f cdv A outer s H vs Q E HR h => ?_
  · unfold sp_Calling_begun at h; split at h <;> first | rfl | exact h.elim
  · unfold sp_Calling_begun at h
    split at h
    · rename_i x
      refine ⟨_, (pss_one (ps_ret (pe_mkN T.k_Open T.ni_Open rfl))), ?_⟩
      walk_at "wps"
      exact fun y dx ny nd _ => h y _ (same_new ny nd) ⟨_, dx, upd_same, .tail _ (.tail _ (.head _))⟩
    · exact h.elim
theorem ok_Open_ended (T : Txt K mg C_RoadError C_NotNow C_State C_Shut C_Calling C_Open C_Left C_Leaving C_Waiting C_Closing)        : MtAt P w K mg base (CX1 P w) C_Open "ended" 1 ["self"] (sp_Open_ended C_Shut C_Calling C_Open C_Left C_Leaving C_Waiting C_Closing) := by
  refine T.d_Open_ended.fn sc_Open_ended bd_Open_ended (fun vs H Q E h => ?_) fun f cdv A outer s H vs Q E HR h => ?_
  · unfold sp_Open_ended at h; split at h <;> first | rfl | exact h.elim
  · unfold sp_Open_ended at h
    split at h
    · rename_i x
      refine ⟨_, (pss_one (ps_ret (pe_mkN T.k_Left T.ni_Left rfl))), ?_⟩
      walk_at "wps"
      exact fun y dx ny nd _ => h y _ (same_new ny nd) ⟨_, dx, upd_same, .tail _ (.tail _ (.tail _ (.head _)))⟩
    · exact h.elim
theorem ok_Leaving_ended (T : Txt K mg C_RoadError C_NotNow C_State C_Shut C_Calling C_Open C_Left C_Leaving C_Waiting C_Closing)        : MtAt P w K mg base (CX1 P w) C_Leaving "ended" 1 ["self"] (sp_Leaving_ended C_Shut C_Calling C_Open C_Left C_Leaving C_Waiting C_Closing) := by
  refine T.d_Leaving_ended.fn sc_Leaving_ended bd_Leaving_ended (fun vs H Q E h => ?_) fun f cdv A outer s H vs Q E HR h => ?_
  · unfold sp_Leaving_ended at h; split at h <;> first | rfl | exact h.elim
  · unfold sp_Leaving_ended at h
    split at h
    · rename_i x
      refine ⟨_, (pss_one (ps_ret (pe_mkN T.k_Closing T.ni_Closing rfl))), ?_⟩
      walk_at "wps"
      exact fun y dx ny nd _ => h y _ (same_new ny nd) ⟨_, dx, upd_same, .tail _ (.tail _ (.tail _ (.tail _ (.tail _ (.tail _ (.head _))))))⟩
    · exact h.elim
theorem ok_Waiting_ended (T : Txt K mg C_RoadError C_NotNow C_State C_Shut C_Calling C_Open C_Left C_Leaving C_Waiting C_Closing)        : MtAt P w K mg base (CX1 P w) C_Waiting "ended" 1 ["self"] (sp_Waiting_ended C_Shut C_Calling C_Open C_Left C_Leaving C_Waiting C_Closing) := by
  refine T.d_Waiting_ended.fn sc_Waiting_ended bd_Waiting_ended (fun vs H Q E h => ?_) fun f cdv A outer s H vs Q E HR h => ?_
  · unfold sp_Waiting_ended at h; split at h <;> first | rfl | exact h.elim
  · unfold sp_Waiting_ended at h
    split at h
    · rename_i x
      refine ⟨_, (pss_one (ps_ret (pe_mkN T.k_Shut T.ni_Shut rfl))), ?_⟩
      walk_at "wps"
      exact fun y dx ny nd _ => h y _ (same_new ny nd) ⟨_, dx, upd_same, .head _⟩
    · exact h.elim
theorem ok_Leaving_answered (T : Txt K mg C_RoadError C_NotNow C_State C_Shut C_Calling C_Open C_Left C_Leaving C_Waiting C_Closing)        : MtAt P w K mg base (CX1 P w) C_Leaving "answered" 1 ["self"] (sp_Leaving_answered C_Shut C_Calling C_Open C_Left C_Leaving C_Waiting C_Closing) := by
  refine T.d_Leaving_answered.fn sc_Leaving_answered bd_Leaving_answered (fun vs H Q E h => ?_) fun f cdv A outer s H vs Q E HR h => ?_
  · unfold sp_Leaving_answered at h; split at h <;> first | rfl | exact h.elim
  · unfold sp_Leaving_answered at h
    split at h
    · rename_i x
      refine ⟨_, (pss_one (ps_ret (pe_mkN T.k_Waiting T.ni_Waiting rfl))), ?_⟩
      walk_at "wps"
      exact fun y dx ny nd _ => h y _ (same_new ny nd) ⟨_, dx, upd_same, .tail _ (.tail _ (.tail _ (.tail _ (.tail _ (.head _)))))⟩
    · exact h.elim
theorem ok_Closing_answered (T : Txt K mg C_RoadError C_NotNow C_State C_Shut C_Calling C_Open C_Left C_Leaving C_Waiting C_Closing)        : MtAt P w K mg base (CX1 P w) C_Closing "answered" 1 ["self"] (sp_Closing_answered C_Shut C_Calling C_Open C_Left C_Leaving C_Waiting C_Closing) := by
  refine T.d_Closing_answered.fn sc_Closing_answered bd_Closing_answered (fun vs H Q E h => ?_) fun f cdv A outer s H vs Q E HR h => ?_
  · unfold sp_Closing_answered at h; split at h <;> first | rfl | exact h.elim
  · unfold sp_Closing_answered at h
    split at h
    · rename_i x
      refine ⟨_, (pss_one (ps_ret (pe_mkN T.k_Shut T.ni_Shut rfl))), ?_⟩
      walk_at "wps"
      exact fun y dx ny nd _ => h y _ (same_new ny nd) ⟨_, dx, upd_same, .head _⟩
    · exact h.elim
theorem ok_State_begun (T : Txt K mg C_RoadError C_NotNow C_State C_Shut C_Calling C_Open C_Left C_Leaving C_Waiting C_Closing) {C : Addr} (F : MethAt K C "begun" "State.begun" s_State_begun)  : MtAt P w K mg base (CX1 P w) C "begun" 1 ["self"] sp_State_begun := by
  refine F.fn sc_State_begun bd_State_begun (fun vs H Q E h => ?_) fun f cdv A outer s H vs Q E HR h => ?_
  · unfold sp_State_begun at h; split at h <;> first | rfl | exact h.elim
  · unfold sp_State_begun at h
    split at h
    · rename_i x
      refine ⟨_, (pss_one (ps_ret (pv 0))), ?_⟩
      walk_at "wps"
      exact h
    · exact h.elim
theorem ok_State_ended (T : Txt K mg C_RoadError C_NotNow C_State C_Shut C_Calling C_Open C_Left C_Leaving C_Waiting C_Closing) {C : Addr} (F : MethAt K C "ended" "State.ended" s_State_ended)  : MtAt P w K mg base (CX1 P w) C "ended" 1 ["self"] sp_State_ended := by
  refine F.fn sc_State_ended bd_State_ended (fun vs H Q E h => ?_) fun f cdv A outer s H vs Q E HR h => ?_
  · unfold sp_State_ended at h; split at h <;> first | rfl | exact h.elim
  · unfold sp_State_ended at h
    split at h
    · rename_i x
      refine ⟨_, (pss_one (ps_ret (pv 0))), ?_⟩
      walk_at "wps"
      exact h
    · exact h.elim
theorem ok_State_answered (T : Txt K mg C_RoadError C_NotNow C_State C_Shut C_Calling C_Open C_Left C_Leaving C_Waiting C_Closing) {C : Addr} (F : MethAt K C "answered" "State.answered" s_State_answered)  : MtAt P w K mg base (CX1 P w) C "answered" 1 ["self"] sp_State_answered := by
  refine F.fn sc_State_answered bd_State_answered (fun vs H Q E h => ?_) fun f cdv A outer s H vs Q E HR h => ?_
  · unfold sp_State_answered at h; split at h <;> first | rfl | exact h.elim
  · unfold sp_State_answered at h
    split at h
    · rename_i x
      refine ⟨_, (pss_one (ps_ret (pv 0))), ?_⟩
      walk_at "wps"
      exact h
    · exact h.elim
theorem st_cases {C_Shut C_Calling C_Open C_Left C_Leaving C_Waiting C_Closing : Addr} {C : Addr} {nm : Str} (h : (C, nm) ∈ tbl C_Shut C_Calling C_Open C_Left C_Leaving C_Waiting C_Closing) : (C = C_Shut ∧ nm = "shut") ∨ (C = C_Calling ∧ nm = "calling") ∨ (C = C_Open ∧ nm = "open") ∨ (C = C_Left ∧ nm = "left") ∨ (C = C_Leaving ∧ nm = "leaving") ∨ (C = C_Waiting ∧ nm = "waiting") ∨ (C = C_Closing ∧ nm = "closing") := by
  simpa [tbl] using h
theorem ok_V_name (T : Txt K mg C_RoadError C_NotNow C_State C_Shut C_Calling C_Open C_Left C_Leaving C_Waiting C_Closing) : VmAt P w K mg base (CX1 P w) "name" 1 (sp_V_name C_Shut C_Calling C_Open C_Left C_Leaving C_Waiting C_Closing) := by
  intro x H Q E h
  unfold sp_V_name at h
  split at h
  rotate_left
  · exact h.elim
  rename_i x e
  obtain ⟨nm, hst, q⟩ := h
  have hst0 := hst
  obtain ⟨C, dx, hx, hm⟩ := hst
  injection e with e1 _
  rcases st_cases hm with ⟨rfl, rfl⟩ | ⟨rfl, rfl⟩ | ⟨rfl, rfl⟩ | ⟨rfl, rfl⟩ | ⟨rfl, rfl⟩ | ⟨rfl, rfl⟩ | ⟨rfl, rfl⟩
  · exact ⟨x, _, dx, _, _, _, _, e1, hx, rfl, by decide, T.k_Shut.cl, ok_Shut_name T, q⟩
  · exact ⟨x, _, dx, _, _, _, _, e1, hx, rfl, by decide, T.k_Calling.cl, ok_Calling_name T, q⟩
  · exact ⟨x, _, dx, _, _, _, _, e1, hx, rfl, by decide, T.k_Open.cl, ok_Open_name T, q⟩
  · exact ⟨x, _, dx, _, _, _, _, e1, hx, rfl, by decide, T.k_Left.cl, ok_Left_name T, q⟩
  · exact ⟨x, _, dx, _, _, _, _, e1, hx, rfl, by decide, T.k_Leaving.cl, ok_Leaving_name T, q⟩
  · exact ⟨x, _, dx, _, _, _, _, e1, hx, rfl, by decide, T.k_Waiting.cl, ok_Waiting_name T, q⟩
  · exact ⟨x, _, dx, _, _, _, _, e1, hx, rfl, by decide, T.k_Closing.cl, ok_Closing_name T, q⟩
theorem ok_State_wish_begin (T : Txt K mg C_RoadError C_NotNow C_State C_Shut C_Calling C_Open C_Left C_Leaving C_Waiting C_Closing) {C : Addr} (F : MethAt K C "wish_begin" "State.wish_begin" s_State_wish_begin)         : MtAt P w K mg base (CX1 P w) C "wish_begin" 3 ["self"] (sp_State_wish_begin C_NotNow C_Shut C_Calling C_Open C_Left C_Leaving C_Waiting C_Closing) := by
  refine F.fnX sc_State_wish_begin bd_State_wish_begin (fun vs H Q E h => ?_) fun f cdv A outer s H vs Q E HR h => ?_
  · unfold sp_State_wish_begin at h; split at h <;> first | rfl | exact h.elim
  · unfold sp_State_wish_begin at h
    split at h
    · rename_i x
      refine ⟨_, (pss_one (ps_raiseIQ T.x_NotNow (ok_NotNow___init__ T) T.kp_NotNow HR (by decide) rz_fn rfl rfl rfl (pa_q (pe_mtV (pv 0) (ok_V_name T) HR (by decide)) (pa_q pe_str pa_nil)))), ?_⟩
      obtain ⟨nm, hst, q⟩ := h
      walk_at "wps"
      refine ⟨nm, hst, fun e he d hd => ?_⟩
      obtain ⟨s1, s2⟩ := dropx (C := C_NotNow) (l := [("state", .str nm), ("wish", .str "begin")]) (Same.refl H) he hd
      exact ⟨_, rfl, q _ d s1 s2⟩
    · exact h.elim
theorem ok_State_wish_end (T : Txt K mg C_RoadError C_NotNow C_State C_Shut C_Calling C_Open C_Left C_Leaving C_Waiting C_Closing) {C : Addr} (F : MethAt K C "wish_end" "State.wish_end" s_State_wish_end)         : MtAt P w K mg base (CX1 P w) C "wish_end" 3 ["self"] (sp_State_wish_end C_NotNow C_Shut C_Calling C_Open C_Left C_Leaving C_Waiting C_Closing) := by
  refine F.fnX sc_State_wish_end bd_State_wish_end (fun vs H Q E h => ?_) fun f cdv A outer s H vs Q E HR h => ?_
  · unfold sp_State_wish_end at h; split at h <;> first | rfl | exact h.elim
  · unfold sp_State_wish_end at h
    split at h
    · rename_i x
      refine ⟨_, (pss_one (ps_raiseIQ T.x_NotNow (ok_NotNow___init__ T) T.kp_NotNow HR (by decide) rz_fn rfl rfl rfl (pa_q (pe_mtV (pv 0) (ok_V_name T) HR (by decide)) (pa_q pe_str pa_nil)))), ?_⟩
      obtain ⟨nm, hst, q⟩ := h
      walk_at "wps"
      refine ⟨nm, hst, fun e he d hd => ?_⟩
      obtain ⟨s1, s2⟩ := dropx (C := C_NotNow) (l := [("state", .str nm), ("wish", .str "end")]) (Same.refl H) he hd
      exact ⟨_, rfl, q _ d s1 s2⟩
    · exact h.elim
--SPLIT
theorem ok_V_wish_begin (T : Txt K mg C_RoadError C_NotNow C_State C_Shut C_Calling C_Open C_Left C_Leaving C_Waiting C_Closing) : VmAt P w K mg base (CX1 P w) "wish_begin" 3 (sp_V_wish_begin C_NotNow C_Shut C_Calling C_Open C_Left C_Leaving C_Waiting C_Closing) := by
  intro x H Q E h
  unfold sp_V_wish_begin at h
  split at h
  rotate_left
  · exact h.elim
  rename_i x e
  obtain ⟨nm, hst, q⟩ := h
  have hst0 := hst
  obtain ⟨C, dx, hx, hm⟩ := hst
  injection e with e1 _
  rcases st_cases hm with ⟨rfl, rfl⟩ | ⟨rfl, rfl⟩ | ⟨rfl, rfl⟩ | ⟨rfl, rfl⟩ | ⟨rfl, rfl⟩ | ⟨rfl, rfl⟩ | ⟨rfl, rfl⟩
  · exact ⟨x, _, dx, _, _, _, _, e1, hx, rfl, by decide, T.k_Shut.cl, ok_Shut_wish_begin T, q.1 _ (by decide +kernel)⟩
  · exact ⟨x, _, dx, _, _, _, _, e1, hx, rfl, by decide, T.k_Calling.cl, ok_State_wish_begin T T.di_Calling_wish_begin, ⟨_, hst0, q.2 (by decide +kernel)⟩⟩
  · exact ⟨x, _, dx, _, _, _, _, e1, hx, rfl, by decide, T.k_Open.cl, ok_State_wish_begin T T.di_Open_wish_begin, ⟨_, hst0, q.2 (by decide +kernel)⟩⟩
  · exact ⟨x, _, dx, _, _, _, _, e1, hx, rfl, by decide, T.k_Left.cl, ok_State_wish_begin T T.di_Left_wish_begin, ⟨_, hst0, q.2 (by decide +kernel)⟩⟩
  · exact ⟨x, _, dx, _, _, _, _, e1, hx, rfl, by decide, T.k_Leaving.cl, ok_State_wish_begin T T.di_Leaving_wish_begin, ⟨_, hst0, q.2 (by decide +kernel)⟩⟩
  · exact ⟨x, _, dx, _, _, _, _, e1, hx, rfl, by decide, T.k_Waiting.cl, ok_State_wish_begin T T.di_Waiting_wish_begin, ⟨_, hst0, q.2 (by decide +kernel)⟩⟩
  · exact ⟨x, _, dx, _, _, _, _, e1, hx, rfl, by decide, T.k_Closing.cl, ok_State_wish_begin T T.di_Closing_wish_begin, ⟨_, hst0, q.2 (by decide +kernel)⟩⟩
theorem ok_V_wish_end (T : Txt K mg C_RoadError C_NotNow C_State C_Shut C_Calling C_Open C_Left C_Leaving C_Waiting C_Closing) : VmAt P w K mg base (CX1 P w) "wish_end" 3 (sp_V_wish_end C_NotNow C_Shut C_Calling C_Open C_Left C_Leaving C_Waiting C_Closing) := by
  intro x H Q E h
  unfold sp_V_wish_end at h
  split at h
  rotate_left
  · exact h.elim
  rename_i x e
  obtain ⟨nm, hst, q⟩ := h
  have hst0 := hst
  obtain ⟨C, dx, hx, hm⟩ := hst
  injection e with e1 _
  rcases st_cases hm with ⟨rfl, rfl⟩ | ⟨rfl, rfl⟩ | ⟨rfl, rfl⟩ | ⟨rfl, rfl⟩ | ⟨rfl, rfl⟩ | ⟨rfl, rfl⟩ | ⟨rfl, rfl⟩
  · exact ⟨x, _, dx, _, _, _, _, e1, hx, rfl, by decide, T.k_Shut.cl, ok_State_wish_end T T.di_Shut_wish_end, ⟨_, hst0, q.2 (by decide +kernel)⟩⟩
  · exact ⟨x, _, dx, _, _, _, _, e1, hx, rfl, by decide, T.k_Calling.cl, ok_Calling_wish_end T, q.1 _ (by decide +kernel)⟩
  · exact ⟨x, _, dx, _, _, _, _, e1, hx, rfl, by decide, T.k_Open.cl, ok_Open_wish_end T, q.1 _ (by decide +kernel)⟩
  · exact ⟨x, _, dx, _, _, _, _, e1, hx, rfl, by decide, T.k_Left.cl, ok_Left_wish_end T, q.1 _ (by decide +kernel)⟩
  · exact ⟨x, _, dx, _, _, _, _, e1, hx, rfl, by decide, T.k_Leaving.cl, ok_State_wish_end T T.di_Leaving_wish_end, ⟨_, hst0, q.2 (by decide +kernel)⟩⟩
  · exact ⟨x, _, dx, _, _, _, _, e1, hx, rfl, by decide, T.k_Waiting.cl, ok_State_wish_end T T.di_Waiting_wish_end, ⟨_, hst0, q.2 (by decide +kernel)⟩⟩
  · exact ⟨x, _, dx, _, _, _, _, e1, hx, rfl, by decide, T.k_Closing.cl, ok_State_wish_end T T.di_Closing_wish_end, ⟨_, hst0, q.2 (by decide +kernel)⟩⟩
theorem ok_V_begun (T : Txt K mg C_RoadError C_NotNow C_State C_Shut C_Calling C_Open C_Left C_Leaving C_Waiting C_Closing) : VmAt P w K mg base (CX1 P w) "begun" 1 (sp_V_begun C_Shut C_Calling C_Open C_Left C_Leaving C_Waiting C_Closing) := by
  intro x H Q E h
  unfold sp_V_begun at h
  split at h
  rotate_left
  · exact h.elim
  rename_i x e
  obtain ⟨nm, hst, q⟩ := h
  have hst0 := hst
  obtain ⟨C, dx, hx, hm⟩ := hst
  injection e with e1 _
  rcases st_cases hm with ⟨rfl, rfl⟩ | ⟨rfl, rfl⟩ | ⟨rfl, rfl⟩ | ⟨rfl, rfl⟩ | ⟨rfl, rfl⟩ | ⟨rfl, rfl⟩ | ⟨rfl, rfl⟩
  · exact ⟨x, _, dx, _, _, _, _, e1, hx, rfl, by decide, T.k_Shut.cl, ok_Shut_begun T, q _ (by decide +kernel)⟩
  · exact ⟨x, _, dx, _, _, _, _, e1, hx, rfl, by decide, T.k_Calling.cl, ok_Calling_begun T, q _ (by decide +kernel)⟩
  · exact ⟨x, _, dx, _, _, _, _, e1, hx, rfl, by decide, T.k_Open.cl, ok_State_begun T T.di_Open_begun, q _ (by decide +kernel) _ _ (Same.refl _) hst0⟩
  · exact ⟨x, _, dx, _, _, _, _, e1, hx, rfl, by decide, T.k_Left.cl, ok_State_begun T T.di_Left_begun, q _ (by decide +kernel) _ _ (Same.refl _) hst0⟩
  · exact ⟨x, _, dx, _, _, _, _, e1, hx, rfl, by decide, T.k_Leaving.cl, ok_State_begun T T.di_Leaving_begun, q _ (by decide +kernel) _ _ (Same.refl _) hst0⟩
  · exact ⟨x, _, dx, _, _, _, _, e1, hx, rfl, by decide, T.k_Waiting.cl, ok_State_begun T T.di_Waiting_begun, q _ (by decide +kernel) _ _ (Same.refl _) hst0⟩
  · exact ⟨x, _, dx, _, _, _, _, e1, hx, rfl, by decide, T.k_Closing.cl, ok_State_begun T T.di_Closing_begun, q _ (by decide +kernel) _ _ (Same.refl _) hst0⟩
theorem ok_V_ended (T : Txt K mg C_RoadError C_NotNow C_State C_Shut C_Calling C_Open C_Left C_Leaving C_Waiting C_Closing) : VmAt P w K mg base (CX1 P w) "ended" 1 (sp_V_ended C_Shut C_Calling C_Open C_Left C_Leaving C_Waiting C_Closing) := by
  intro x H Q E h
  unfold sp_V_ended at h
  split at h
  rotate_left
  · exact h.elim
  rename_i x e
  obtain ⟨nm, hst, q⟩ := h
  have hst0 := hst
  obtain ⟨C, dx, hx, hm⟩ := hst
  injection e with e1 _
  rcases st_cases hm with ⟨rfl, rfl⟩ | ⟨rfl, rfl⟩ | ⟨rfl, rfl⟩ | ⟨rfl, rfl⟩ | ⟨rfl, rfl⟩ | ⟨rfl, rfl⟩ | ⟨rfl, rfl⟩
  · exact ⟨x, _, dx, _, _, _, _, e1, hx, rfl, by decide, T.k_Shut.cl, ok_State_ended T T.di_Shut_ended, q _ (by decide +kernel) _ _ (Same.refl _) hst0⟩
  · exact ⟨x, _, dx, _, _, _, _, e1, hx, rfl, by decide, T.k_Calling.cl, ok_State_ended T T.di_Calling_ended, q _ (by decide +kernel) _ _ (Same.refl _) hst0⟩
  · exact ⟨x, _, dx, _, _, _, _, e1, hx, rfl, by decide, T.k_Open.cl, ok_Open_ended T, q _ (by decide +kernel)⟩
  · exact ⟨x, _, dx, _, _, _, _, e1, hx, rfl, by decide, T.k_Left.cl, ok_State_ended T T.di_Left_ended, q _ (by decide +kernel) _ _ (Same.refl _) hst0⟩
  · exact ⟨x, _, dx, _, _, _, _, e1, hx, rfl, by decide, T.k_Leaving.cl, ok_Leaving_ended T, q _ (by decide +kernel)⟩
  · exact ⟨x, _, dx, _, _, _, _, e1, hx, rfl, by decide, T.k_Waiting.cl, ok_Waiting_ended T, q _ (by decide +kernel)⟩
  · exact ⟨x, _, dx, _, _, _, _, e1, hx, rfl, by decide, T.k_Closing.cl, ok_State_ended T T.di_Closing_ended, q _ (by decide +kernel) _ _ (Same.refl _) hst0⟩
theorem ok_V_answered (T : Txt K mg C_RoadError C_NotNow C_State C_Shut C_Calling C_Open C_Left C_Leaving C_Waiting C_Closing) : VmAt P w K mg base (CX1 P w) "answered" 1 (sp_V_answered C_Shut C_Calling C_Open C_Left C_Leaving C_Waiting C_Closing) := by
  intro x H Q E h
  unfold sp_V_answered at h
  split at h
  rotate_left
  · exact h.elim
  rename_i x e
  obtain ⟨nm, hst, q⟩ := h
  have hst0 := hst
  obtain ⟨C, dx, hx, hm⟩ := hst
  injection e with e1 _
  rcases st_cases hm with ⟨rfl, rfl⟩ | ⟨rfl, rfl⟩ | ⟨rfl, rfl⟩ | ⟨rfl, rfl⟩ | ⟨rfl, rfl⟩ | ⟨rfl, rfl⟩ | ⟨rfl, rfl⟩
  · exact ⟨x, _, dx, _, _, _, _, e1, hx, rfl, by decide, T.k_Shut.cl, ok_State_answered T T.di_Shut_answered, q _ (by decide +kernel) _ _ (Same.refl _) hst0⟩
  · exact ⟨x, _, dx, _, _, _, _, e1, hx, rfl, by decide, T.k_Calling.cl, ok_State_answered T T.di_Calling_answered, q _ (by decide +kernel) _ _ (Same.refl _) hst0⟩
  · exact ⟨x, _, dx, _, _, _, _, e1, hx, rfl, by decide, T.k_Open.cl, ok_State_answered T T.di_Open_answered, q _ (by decide +kernel) _ _ (Same.refl _) hst0⟩
  · exact ⟨x, _, dx, _, _, _, _, e1, hx, rfl, by decide, T.k_Left.cl, ok_State_answered T T.di_Left_answered, q _ (by decide +kernel) _ _ (Same.refl _) hst0⟩
  · exact ⟨x, _, dx, _, _, _, _, e1, hx, rfl, by decide, T.k_Leaving.cl, ok_Leaving_answered T, q _ (by decide +kernel)⟩
  · exact ⟨x, _, dx, _, _, _, _, e1, hx, rfl, by decide, T.k_Waiting.cl, ok_State_answered T T.di_Waiting_answered, q _ (by decide +kernel) _ _ (Same.refl _) hst0⟩
  · exact ⟨x, _, dx, _, _, _, _, e1, hx, rfl, by decide, T.k_Closing.cl, ok_Closing_answered T, q _ (by decide +kernel)⟩
theorem ok__law_table (T : Txt K mg C_RoadError C_NotNow C_State C_Shut C_Calling C_Open C_Left C_Leaving C_Waiting C_Closing)  : FnAt P w K mg base (CX1 P w) "_law_table" 1 ["_law_talks", "_law_begins", "_law_ends", "_law_heard", "_law_others", "_law_other_ends"] sp__law_table := by
  refine T.d__law_table.fn sc__law_table bd__law_table (fun vs H Q E h => ?_) fun f cdv A outer s H vs Q E HR h => ?_
  · unfold sp__law_table at h; split at h <;> first | rfl | exact h.elim
  · unfold sp__law_table at h
    split at h
    · rename_i t b e hd o oe
      refine ⟨_, (QSs.h (qss_cons (qs_setQ (i := 6) sc__law_table.nd rfl (Or.inl rfl) (qe_tup (qa_q ⟨(pe_op op_sub (pv 1) (pv 0))⟩ (qa_q ⟨(pe_op op_sub (pv 2) (pv 0))⟩ (qa_q ⟨(pe_op op_sub (pv 3) (pv 0))⟩ (qa_q ⟨(pe_op op_sub (pv 4) (pv 0))⟩ (qa_q ⟨(pe_op op_sub (pv 5) (pv 0))⟩ qa_nil)))))))
  (qss_hold (qss_cons (qs_if (pt_cmpR (op_eqXK K rfl HR.units) (pv 6) (pe_tup (pa_q pe_int (pa_q pe_int (pa_q pe_int (pa_q pe_int (pa_q pe_int pa_nil)))))) (nomark _)) (qss_one ⟨(ps_ret pe_str)⟩) qss_nil)
  (qss_hold (qss_cons (qs_if (pt_cmpR (op_eqXK K rfl HR.units) (pv 6) (pe_tup (pa_q pe_int (pa_q pe_int (pa_q pe_int (pa_q pe_int (pa_q pe_int pa_nil)))))) (nomark _)) (qss_one ⟨(ps_ret pe_str)⟩) qss_nil)
  (qss_hold (qss_cons (qs_if (pt_cmpR (op_eqXK K rfl HR.units) (pv 6) (pe_tup (pa_q pe_int (pa_q pe_int (pa_q pe_int (pa_q pe_int (pa_q pe_int pa_nil)))))) (nomark _)) (qss_one ⟨(ps_ret pe_str)⟩) qss_nil)
  (qss_hold (qss_cons (qs_if (pt_cmpR (op_eqXK K rfl HR.units) (pv 6) (pe_tup (pa_q pe_int (pa_q pe_int (pa_q pe_int (pa_q pe_int (pa_q pe_int pa_nil)))))) (nomark _)) (qss_one ⟨(ps_ret pe_str)⟩) qss_nil)
  (qss_hold (qss_cons (qs_if (PW.pt (pw_or (pt_cmpR (op_eqXK K rfl HR.units) (pv 6) (pe_tup (pa_q pe_int (pa_q pe_int (pa_q pe_int (pa_q pe_int (pa_q pe_int pa_nil)))))) (nomark _)) (pw_or1 (pt_cmpR (op_eqXK K rfl HR.units) (pv 6) (pe_tup (pa_q pe_int (pa_q pe_int (pa_q pe_int (pa_q pe_int (pa_q pe_int pa_nil)))))) (nomark _))))) (qss_one ⟨(ps_ret pe_str)⟩) qss_nil)
  (qss_hold (qss_cons (qs_if (PW.pt (pw_or (pt_cmpR (op_eqXK K rfl HR.units) (pv 6) (pe_tup (pa_q pe_int (pa_q pe_int (pa_q pe_int (pa_q pe_int (pa_q pe_int pa_nil)))))) (nomark _)) (pw_or1 (pt_cmpR (op_eqXK K rfl HR.units) (pv 6) (pe_tup (pa_q pe_int (pa_q pe_int (pa_q pe_int (pa_q pe_int (pa_q pe_int pa_nil)))))) (nomark _))))) (qss_one ⟨(ps_ret pe_str)⟩) qss_nil)
  (qss_hold (qss_cons (qs_if (pt_cmpR (op_eqXK K rfl HR.units) (pv 6) (pe_tup (pa_q pe_int (pa_q pe_int (pa_q pe_int (pa_q pe_int (pa_q pe_int pa_nil)))))) (nomark _)) (qss_one ⟨(ps_ret pe_str)⟩) qss_nil)
  (qss_hold (qss_one ⟨(ps_ret pe_str)⟩)))))))))))))))))), ?_⟩
      obtain ⟨p, K', T', t', n, s, rfl, rfl, rfl, rfl, rfl, rfl, q⟩ := h
      have b1 := s.p0; have b2 := s.p1; have b3 := s.k0; have b4 := s.k1; have b5 := s.t0; have b6 := s.t1; have b7 := s.sh; have b8 := s.nb
      have S0 : Same H H := Same.refl _
      generalize h_u1 : tHold _ = u1
      walk_at "wps"
      intro pr npr
      have e_pr := upd_same (H := H) (a := pr) (o := .tup [.int ((((p + 1) / 2 : Nat) : Int) - (t' : Nat)), .int (((p / 2 : Nat) : Int) - (t' : Nat)), .int (((K' / 2 : Nat) : Int) - (t' : Nat)), .int ((((T' + 1) / 2 : Nat) : Int) - (t' : Nat)), .int (((T' / 2 : Nat) : Int) - (t' : Nat))])
      replace S0 := S0.trans (same_upd (H := H) (o := .tup [.int ((((p + 1) / 2 : Nat) : Int) - (t' : Nat)), .int (((p / 2 : Nat) : Int) - (t' : Nat)), .int (((K' / 2 : Nat) : Int) - (t' : Nat)), .int ((((T' + 1) / 2 : Nat) : Int) - (t' : Nat)), .int (((T' / 2 : Nat) : Int) - (t' : Nat))]) npr)
      generalize upd H pr (.tup [.int ((((p + 1) / 2 : Nat) : Int) - (t' : Nat)), .int (((p / 2 : Nat) : Int) - (t' : Nat)), .int (((K' / 2 : Nat) : Int) - (t' : Nat)), .int ((((T' + 1) / 2 : Nat) : Int) - (t' : Nat)), .int (((T' / 2 : Nat) : Int) - (t' : Nat))]) = H1 at *
      generalize r1 : (((p + 1) / 2 : Nat) : Int) - (t' : Nat) = B1 at *
      generalize r2 : ((p / 2 : Nat) : Int) - (t' : Nat) = B2 at *
      generalize r3 : ((K' / 2 : Nat) : Int) - (t' : Nat) = B3 at *
      generalize r4 : (((T' + 1) / 2 : Nat) : Int) - (t' : Nat) = B4 at *
      generalize r5 : ((T' / 2 : Nat) : Int) - (t' : Nat) = B5 at *
      have R := row_name s r1 r2 r3 r4 r5
      clear s b1 b2 b3 b4 b5 b6 b7 b8
      rw [← h_u1, tHold]
      generalize h_u2 : tHold _ = u2
      walk_at "wps"
      intro pc00 nc00
      refine eqT5 (upd_old e_pr nc00) upd_same ?_
      replace e_pr := upd_old (o := .tup [.int 0, .int 0, .int 0, .int 0, .int 0]) e_pr nc00
      replace S0 := S0.trans (same_upd (o := .tup [.int 0, .int 0, .int 0, .int 0, .int 0]) nc00)
      generalize upd _ pc00 (.tup [.int 0, .int 0, .int 0, .int 0, .int 0]) = Jc00 at *
      by_cases c00 : B1 = 0 ∧ B2 = 0 ∧ B3 = 0 ∧ B4 = 0 ∧ B5 = 0
      · rw [if_pos c00]
        have e : n = 0 := by clear S0 e_pr q; rcases R with R | R | R | R | R | R | R | R | R <;> omega
        subst e
        first | exact q _ S0 | (walk_at "wps"; exact q _ S0)
      rw [if_neg c00]
      rw [← h_u2, tHold]
      generalize h_u3 : tHold _ = u3
      walk_at "wps"
      intro pc10 nc10
      refine eqT5 (upd_old e_pr nc10) upd_same ?_
      replace e_pr := upd_old (o := .tup [.int 1, .int 0, .int 0, .int 0, .int 0]) e_pr nc10
      replace S0 := S0.trans (same_upd (o := .tup [.int 1, .int 0, .int 0, .int 0, .int 0]) nc10)
      generalize upd _ pc10 (.tup [.int 1, .int 0, .int 0, .int 0, .int 0]) = Jc10 at *
      by_cases c10 : B1 = 1 ∧ B2 = 0 ∧ B3 = 0 ∧ B4 = 0 ∧ B5 = 0
      · rw [if_pos c10]
        have e : n = 1 := by clear S0 e_pr q; rcases R with R | R | R | R | R | R | R | R | R <;> omega
        subst e
        first | exact q _ S0 | (walk_at "wps"; exact q _ S0)
      rw [if_neg c10]
      rw [← h_u3, tHold]
      generalize h_u4 : tHold _ = u4
      walk_at "wps"
      intro pc20 nc20
      refine eqT5 (upd_old e_pr nc20) upd_same ?_
      replace e_pr := upd_old (o := .tup [.int 1, .int 0, .int 0, .int 1, .int 0]) e_pr nc20
      replace S0 := S0.trans (same_upd (o := .tup [.int 1, .int 0, .int 0, .int 1, .int 0]) nc20)
      generalize upd _ pc20 (.tup [.int 1, .int 0, .int 0, .int 1, .int 0]) = Jc20 at *
      by_cases c20 : B1 = 1 ∧ B2 = 0 ∧ B3 = 0 ∧ B4 = 1 ∧ B5 = 0
      · rw [if_pos c20]
        have e : n = 2 := by clear S0 e_pr q; rcases R with R | R | R | R | R | R | R | R | R <;> omega
        subst e
        first | exact q _ S0 | (walk_at "wps"; exact q _ S0)
      rw [if_neg c20]
      rw [← h_u4, tHold]
      generalize h_u5 : tHold _ = u5
      walk_at "wps"
      intro pc30 nc30
      refine eqT5 (upd_old e_pr nc30) upd_same ?_
      replace e_pr := upd_old (o := .tup [.int 1, .int 0, .int 0, .int 1, .int 1]) e_pr nc30
      replace S0 := S0.trans (same_upd (o := .tup [.int 1, .int 0, .int 0, .int 1, .int 1]) nc30)
      generalize upd _ pc30 (.tup [.int 1, .int 0, .int 0, .int 1, .int 1]) = Jc30 at *
      by_cases c30 : B1 = 1 ∧ B2 = 0 ∧ B3 = 0 ∧ B4 = 1 ∧ B5 = 1
      · rw [if_pos c30]
        have e : n = 3 := by clear S0 e_pr q; rcases R with R | R | R | R | R | R | R | R | R <;> omega
        subst e
        first | exact q _ S0 | (walk_at "wps"; exact q _ S0)
      rw [if_neg c30]
      rw [← h_u5, tHold]
      generalize h_u6 : tHold _ = u6
      walk_at "wps"
      intro pc40 nc40
      refine eqT5 (upd_old e_pr nc40) upd_same ?_
      replace e_pr := upd_old (o := .tup [.int 1, .int 1, .int 0, .int 0, .int 0]) e_pr nc40
      replace S0 := S0.trans (same_upd (o := .tup [.int 1, .int 1, .int 0, .int 0, .int 0]) nc40)
      generalize upd _ pc40 (.tup [.int 1, .int 1, .int 0, .int 0, .int 0]) = Jc40 at *
      by_cases c40 : B1 = 1 ∧ B2 = 1 ∧ B3 = 0 ∧ B4 = 0 ∧ B5 = 0
      · rw [if_pos c40]
        have e : n = 4 := by clear S0 e_pr q; rcases R with R | R | R | R | R | R | R | R | R <;> omega
        subst e
        first | exact q _ S0 | (walk_at "wps"; exact q _ S0)
      rw [if_neg c40]
      try walk_at "wps"
      intro pc41 nc41
      refine eqT5 (upd_old e_pr nc41) upd_same ?_
      replace e_pr := upd_old (o := .tup [.int 1, .int 1, .int 0, .int 1, .int 0]) e_pr nc41
      replace S0 := S0.trans (same_upd (o := .tup [.int 1, .int 1, .int 0, .int 1, .int 0]) nc41)
      generalize upd _ pc41 (.tup [.int 1, .int 1, .int 0, .int 1, .int 0]) = Jc41 at *
      by_cases c41 : B1 = 1 ∧ B2 = 1 ∧ B3 = 0 ∧ B4 = 1 ∧ B5 = 0
      · rw [if_pos c41]
        have e : n = 4 := by clear S0 e_pr q; rcases R with R | R | R | R | R | R | R | R | R <;> omega
        subst e
        first | exact q _ S0 | (walk_at "wps"; exact q _ S0)
      rw [if_neg c41]
      rw [← h_u6, tHold]
      generalize h_u7 : tHold _ = u7
      walk_at "wps"
      intro pc50 nc50
      refine eqT5 (upd_old e_pr nc50) upd_same ?_
      replace e_pr := upd_old (o := .tup [.int 1, .int 1, .int 1, .int 0, .int 0]) e_pr nc50
      replace S0 := S0.trans (same_upd (o := .tup [.int 1, .int 1, .int 1, .int 0, .int 0]) nc50)
      generalize upd _ pc50 (.tup [.int 1, .int 1, .int 1, .int 0, .int 0]) = Jc50 at *
      by_cases c50 : B1 = 1 ∧ B2 = 1 ∧ B3 = 1 ∧ B4 = 0 ∧ B5 = 0
      · rw [if_pos c50]
        have e : n = 5 := by clear S0 e_pr q; rcases R with R | R | R | R | R | R | R | R | R <;> omega
        subst e
        first | exact q _ S0 | (walk_at "wps"; exact q _ S0)
      rw [if_neg c50]
      try walk_at "wps"
      intro pc51 nc51
      refine eqT5 (upd_old e_pr nc51) upd_same ?_
      replace e_pr := upd_old (o := .tup [.int 1, .int 1, .int 1, .int 1, .int 0]) e_pr nc51
      replace S0 := S0.trans (same_upd (o := .tup [.int 1, .int 1, .int 1, .int 1, .int 0]) nc51)
      generalize upd _ pc51 (.tup [.int 1, .int 1, .int 1, .int 1, .int 0]) = Jc51 at *
      by_cases c51 : B1 = 1 ∧ B2 = 1 ∧ B3 = 1 ∧ B4 = 1 ∧ B5 = 0
      · rw [if_pos c51]
        have e : n = 5 := by clear S0 e_pr q; rcases R with R | R | R | R | R | R | R | R | R <;> omega
        subst e
        first | exact q _ S0 | (walk_at "wps"; exact q _ S0)
      rw [if_neg c51]
      rw [← h_u7, tHold]
      generalize h_u8 : tHold _ = u8
      walk_at "wps"
      intro pc60 nc60
      refine eqT5 (upd_old e_pr nc60) upd_same ?_
      replace e_pr := upd_old (o := .tup [.int 1, .int 1, .int 0, .int 1, .int 1]) e_pr nc60
      replace S0 := S0.trans (same_upd (o := .tup [.int 1, .int 1, .int 0, .int 1, .int 1]) nc60)
      generalize upd _ pc60 (.tup [.int 1, .int 1, .int 0, .int 1, .int 1]) = Jc60 at *
      by_cases c60 : B1 = 1 ∧ B2 = 1 ∧ B3 = 0 ∧ B4 = 1 ∧ B5 = 1
      · rw [if_pos c60]
        have e : n = 6 := by clear S0 e_pr q; rcases R with R | R | R | R | R | R | R | R | R <;> omega
        subst e
        first | exact q _ S0 | (walk_at "wps"; exact q _ S0)
      rw [if_neg c60]
      exfalso
      rcases R with ⟨h1, h2, h3, h4, h5, _⟩ | ⟨h1, h2, h3, h4, h5, _⟩ | ⟨h1, h2, h3, h4, h5, _⟩ | ⟨h1, h2, h3, h4, h5, _⟩ | ⟨h1, h2, h3, h4, h5, _⟩ | ⟨h1, h2, h3, h4, h5, _⟩ | ⟨h1, h2, h3, h4, h5, _⟩ | ⟨h1, h2, h3, h4, h5, _⟩ | ⟨h1, h2, h3, h4, h5, _⟩
      · exact c00 ⟨h1, h2, h3, h4, h5⟩
      · exact c10 ⟨h1, h2, h3, h4, h5⟩
      · exact c20 ⟨h1, h2, h3, h4, h5⟩
      · exact c30 ⟨h1, h2, h3, h4, h5⟩
      · exact c40 ⟨h1, h2, h3, h4, h5⟩
      · exact c41 ⟨h1, h2, h3, h4, h5⟩
      · exact c50 ⟨h1, h2, h3, h4, h5⟩
      · exact c51 ⟨h1, h2, h3, h4, h5⟩
      · exact c60 ⟨h1, h2, h3, h4, h5⟩
    · exact h.elim
theorem ok__law_count (T : Txt K mg C_RoadError C_NotNow C_State C_Shut C_Calling C_Open C_Left C_Leaving C_Waiting C_Closing)  : FnAt P w K mg base (CX1 P w) "_law_count" 1 ["_law_row", "_law_word"] sp__law_count := by
  refine T.d__law_count.fn sc__law_count bd__law_count (fun vs H Q E h => ?_) fun f cdv A outer s H vs Q E HR h => ?_
  · unfold sp__law_count at h; split at h <;> first | rfl | exact h.elim
  · unfold sp__law_count at h
    split at h
    · rename_i r wd
      refine ⟨_, (pss_one (ps_ret (pe_callBQ (call_lenK K rfl) (by rfl) T.b_len bt_len (pa_q (pe_comp (N := (["_law_thing", "_law_heard", "_law_word"] : List Str)) (nv := 2) (ix := [1]) rfl (cs_of (by kernel_rfl)) (pi_seqK K rfl (pv 0)) (fun _ _ _ _ _ => (pg_tupX K (n := 2) rfl rfl (pgs_q (pg_name (i := 0) (show ((["_law_thing", "_law_heard", "_law_word"] : List Str)).Nodup by decide) rfl (Or.inl rfl)) (pgs_q (pg_name (i := 1) (show ((["_law_thing", "_law_heard", "_law_word"] : List Str)).Nodup by decide) rfl (Or.inl rfl)) pgs_nil)))) (fun _ _ _ _ _ => (pts_one (pt_cmpR (op_eqXK K rfl HR.units) (pv 0) (pv 2) (nomark _)))) (fun _ _ _ _ _ => (pv 0))) pa_nil)))), ?_⟩
      obtain ⟨m, f, ⟨cs, h1, h2, h3⟩, hm, hw, q⟩ := h
      walk_at "wps"
      refine co_listH (xs := cs.map V.ref) (SqL.of h1) (small_ok (by rw [List.length_map]; omega)) (fun i ys σ H' => H' = H ∧ ys.length = cntW i wd ∧ ∃ v0 v1, σ = [v0, v1, some (V.str wd)]) ⟨rfl, by unfold cntW; split <;> rfl, none, none, rfl⟩ (fun i ys σ H' hh => ?_) (fun i ys σ H' hh => by rw [hh.1]; exact SqL.of h1) (fun i y ys σ H' hy hh => ?_) (fun ys σ H' hh => ?_)
      · rw [hh.2.1]; unfold cntW; split <;> omega
      · obtain ⟨rfl, ly, v0, v1, rfl⟩ := hh
        rw [List.getElem?_map] at hy
        obtain ⟨c, ec, rfl⟩ := Option.map_eq_some_iff.mp hy
        have hc := h3 i c ec
        exists hc
        have e1 : cntW (i + 1) wd = cntW i wd + (if wordOf i = wd then 1 else 0) := by
          unfold cntW wordOf
          rcases hw with rfl | rfl
          · rw [if_pos rfl, if_pos rfl]
            by_cases k : i % 2 = 0
            · rw [if_pos k, if_pos rfl]; omega
            · rw [if_neg k, if_neg (by decide +kernel)]; omega
          · rw [if_neg (by decide +kernel), if_neg (by decide +kernel)]
            by_cases k : i % 2 = 0
            · rw [if_pos k, if_neg (by decide +kernel)]; omega
            · rw [if_neg k, if_pos rfl]; omega
        by_cases k : wordOf i = wd
        · rw [if_pos k] at e1 ⊢
          exact ⟨by rw [List.length_append, ly, e1]; rfl, _, _, rfl⟩
        · rw [if_neg k] at e1 ⊢
          exact ⟨by rw [ly, e1]; rfl, _, _, rfl⟩
      · obtain ⟨rfl, ly, v0, v1, rfl⟩ := hh
        rw [List.length_map, h2] at ly
        refine ⟨small_ok (by rw [ly]; unfold cntW; split <;> omega), fun l hl => ⟨_, .inl (SqL.of upd_same), ?_⟩⟩
        rw [ly]
        exact q _ (same_upd hl)
    · exact h.elim
theorem ok__law_name (T : Txt K mg C_RoadError C_NotNow C_State C_Shut C_Calling C_Open C_Left C_Leaving C_Waiting C_Closing)        : FnAt P w K mg base (CX1 P w) "_law_name" 2 ["_law_side", "_law_put", "_law_taken", "_law_known"] (sp__law_name C_Shut C_Calling C_Open C_Left C_Leaving C_Waiting C_Closing) := by
  refine T.d__law_name.fn sc__law_name bd__law_name (fun vs H Q E h => ?_) fun f cdv A outer s H vs Q E HR h => ?_
  · unfold sp__law_name at h; split at h <;> first | rfl | exact h.elim
  · unfold sp__law_name at h
    split at h
    · rename_i i pp pt pk
      refine ⟨_, (pss_cons (ps_setQ (i := 4) sc__law_name.nd rfl (Or.inl rfl) (pe_ix (ix_K K rfl) (pv 1) (pv 0) (fun _ _ => rfl)))
  (pss_hold (pss_cons (ps_setQ (i := 5) sc__law_name.nd rfl (Or.inl rfl) (pe_slice (sl_K K rfl) (pe_ix (ix_K K rfl) (pv 1) (pe_op op_sub pe_int (pv 0)) (fun _ _ => rfl)) po_none (po_some (pe_ix (ix_K K rfl) (pv 2) (pv 0) (fun _ _ => rfl)))))
  (pss_hold (pss_cons (ps_setQ (i := 6) sc__law_name.nd rfl (Or.inl rfl) (pe_fnQ (ok__law_count T) HR (by decide) rfl (pa_q (pe_slice (sl_K K rfl) (pv 4) po_none (po_some (pe_ix (ix_K K rfl) (pv 3) (pv 0) (fun _ _ => rfl)))) (pa_q pe_str pa_nil))))
  (pss_hold (pss_cons (ps_setQ (i := 7) sc__law_name.nd rfl (Or.inl rfl) (pe_fnQ (ok__law_count T) HR (by decide) rfl (pa_q (pv 5) (pa_q pe_str pa_nil))))
  (pss_hold (pss_cons (ps_setQ (i := 8) sc__law_name.nd rfl (Or.inl rfl) (pe_callBQ (call_minA rfl) (by rfl) T.b_min bt_min (pa_q (pv 6) (pa_q (pv 7) pa_nil))))
  (pss_hold (pss_cons (ps_setQ (i := 9) sc__law_name.nd rfl (Or.inl rfl) (pe_fnQ (ok__law_count T) HR (by decide) rfl (pa_q (pv 4) (pa_q pe_str pa_nil))))
  (pss_hold (pss_cons (ps_setQ (i := 10) sc__law_name.nd rfl (Or.inl rfl) (pe_fnQ (ok__law_count T) HR (by decide) rfl (pa_q (pv 5) (pa_q pe_str pa_nil))))
  (pss_hold (pss_one (ps_ret (pe_fnQ (ok__law_table T) HR (by decide) rfl (pa_q (pv 8) (pa_q (pv 9) (pa_q (pe_fnQ (ok__law_count T) HR (by decide) rfl (pa_q (pv 4) (pa_q pe_str pa_nil))) (pa_q (pv 6) (pa_q (pv 10) (pa_q (pv 7) pa_nil))))))))))))))))))))))), ?_⟩
      obtain ⟨j, ps, q0, q1, x, n, p, T', K', h, rfl, hj, A, J, hb, q⟩ := h
      have j1 : 1 - j < 2 := by omega
      obtain ⟨t, s⟩ := J.sd j hj
      have ce : ∀ m, cntW m "end" = m / 2 := fun m => if_neg (by decide +kernel)
      have cb : ∀ m, cntW m "begin" = (m + 1) / 2 := fun m => if_pos rfl
      have b0 := hb j hj
      have b1 := hb (1 - j) j1
      have tp := J.tp j hj
      have kp := s.k1
      generalize h_u1 : tHold _ = u1
      walk_at "wps"
      refine ixA_list (SqL.of A.hp) (v := .ref (qq q0 q1 j)) (atq hj) ?_
      rw [← h_u1, tHold]
      generalize h_u2 : tHold _ = u2
      walk_at "wps"
      rw [show (1 : Int) - (j : Int) = ((1 - j : Nat) : Int) by omega]
      refine ixA_list (SqL.of A.hp) (v := .ref (qq q0 q1 (1 - j))) (atq j1) ?_
      refine ixA_list (SqL.of A.ht) (v := .int (T' j : Nat)) (at2 (g := fun k => V.int (T' k : Nat)) hj) ?_
      refine ⟨_, rfl, (A.hq (1 - j) j1).cut tp fun po npo H1 s1 P1 => ?_⟩
      replace A := A.same s1
      rw [← h_u2, tHold]
      generalize h_u3 : tHold _ = u3
      walk_at "wps"
      refine ixA_list (SqL.of A.hk) (v := .int (K' j : Nat)) (at2 (g := fun k => V.int (K' k : Nat)) hj) ?_
      refine ⟨_, rfl, (A.hq j hj).cut kp fun pw npw H2 s2 P2 => ⟨_, _, P2, by omega, .inr rfl, fun H3 s3 => ?_⟩⟩
      rw [ce]
      have S3 := s2.trans s3
      rw [← h_u3, tHold]
      generalize h_u4 : tHold _ = u4
      walk_at "wps"
      refine ⟨_, _, P1.same S3, by omega, fun H4 s4 => ?_⟩
      rw [ce]
      have S4 := S3.trans s4
      rw [← h_u4, tHold]
      generalize h_u5 : tHold _ = u5
      walk_at "wps"
      rw [← h_u5, tHold]
      generalize h_u6 : tHold _ = u6
      walk_at "wps"
      replace A := A.same S4
      refine ⟨_, _, A.hq j hj, by omega, fun H5 s5 => ?_⟩
      rw [cb]
      have S5 := S4.trans s5
      rw [← h_u6, tHold]
      generalize h_u7 : tHold _ = u7
      walk_at "wps"
      refine ⟨_, _, P1.same S5, by omega, fun H6 s6 => ?_⟩
      rw [cb]
      have S6 := S5.trans s6
      rw [← h_u7, tHold]
      walk_at "wps"
      refine ⟨_, _, ((A.same s5).same s6).hq j hj, by omega, fun H7 s7 => ?_⟩
      rw [ce]
      refine ⟨p j, K' j, T' j, t, n j, s, ?_, rfl, rfl, rfl, rfl, rfl, fun H8 s8 => q _ (((s1.trans S6).trans s7).trans s8)⟩
      have := s.talks
      split <;> omega
    · exact h.elim
theorem ok__law_wish (T : Txt K mg C_RoadError C_NotNow C_State C_Shut C_Calling C_Open C_Left C_Leaving C_Waiting C_Closing)        : FnAt P w K mg base (CX1 P w) "_law_wish" 4 ["_law_states", "_law_side", "_law_word", "_law_put", "_law_taken"] (sp__law_wish C_Shut C_Calling C_Open C_Left C_Leaving C_Waiting C_Closing) := by
  refine T.d__law_wish.fn sc__law_wish bd__law_wish (fun vs H Q E h => ?_) fun f cdv A outer s H vs Q E HR h => ?_
  · unfold sp__law_wish at h; split at h <;> first | rfl | exact h.elim
  · unfold sp__law_wish at h
    split at h
    · rename_i ps i wd pp pt
      refine ⟨_, (pss_cons (ps_setQ (i := 5) sc__law_wish.nd rfl (Or.inl rfl) (pe_mtV (pe_ix (ix_K K rfl) (pv 0) (pv 1) (fun _ _ => rfl)) (ok_V_name T) HR (by decide)))
  (pss_hold (pss_cons (ps_setQ (i := 6) sc__law_wish.nd rfl (Or.inl rfl) (pe_or (pe_and (pe_cmpR (op_eqXK K rfl HR.units) (pv 2) pe_str (nomark _)) (pe_one (pe_cmpR (op_eqXK K rfl HR.units) (pv 5) pe_str (nomark _)))) (pe_one (pe_and (pe_cmpR (op_eqXK K rfl HR.units) (pv 2) pe_str (nomark _)) (pe_one (pe_cmpR (op_inK K rfl) (pv 5) (pe_lst (pa_q pe_str (pa_q pe_str (pa_q pe_str pa_nil)))) (nomarkQ rfl)))))))
  (pss_hold (pss_cons (ps_setQ (i := 7) sc__law_wish.nd rfl (Or.inl rfl) pe_bl)
  (pss_hold (pss_cons (ps_try (fun _ _ _ => (pss_one (ps_if (pt_cmpR (op_eqXK K rfl HR.units) (pv 2) pe_str (nomark _)) (pss_one (ps_asgQ (pe_mtVS (pe_ix (ix_K K rfl) (pv 0) (pv 1) (fun _ _ => rfl)) (ok_V_wish_begin T) HR (by decide) (pass_try rfl)) (pg_subQ (pv 0) (pv 1) set_A))) (pss_one (ps_asgQ (pe_mtVS (pe_ix (ix_K K rfl) (pv 0) (pv 1) (fun _ _ => rfl)) (ok_V_wish_end T) HR (by decide) (pass_try rfl)) (pg_subQ (pv 0) (pv 1) set_A)))))) (ph_cons0 rfl T.xm_NotNow rfl (fun _ => (pss_one (ps_setQ (i := 7) sc__law_wish.nd rfl (Or.inl rfl) pe_bl))) ph_nil))
  (pss_hold (pss_cons (ps_if (pt_not (pt_q (pv 7))) (pss_one (ps_exprQ (pe_appendK K rfl (pe_ix (ix_K K rfl) (pv 3) (pv 1) (fun _ _ => rfl)) (pe_tup (pa_q (pv 2) (pa_q (pe_ix (ix_K K rfl) (pv 4) (pv 1) (fun _ _ => rfl)) pa_nil)))))) pss_nil)
  (pss_hold (pss_one (ps_ret (pe_cmpR (op_eqXK K rfl HR.units) (pv 6) (pe_not (pv 7)) (nomark _)))))))))))))), ?_⟩
      obtain ⟨j, pk, q0, q1, x, n, p, T', K', h, rfl, hj, A, J, hb, hw, q⟩ := h
      generalize h_u1 : tHold _ = u1
      walk_at "wps"
      refine ixA_list (SqL.of A.hs) (v := .ref (x j)) (at2 (g := fun k => V.ref (x k)) hj) ?_
      refine ⟨nmS (n j), A.st j hj, ?_⟩
      obtain ⟨t, s⟩ := J.sd j hj
      have l7 := s.lt7
      have S0 : Same H H := Same.refl _
      rw [← h_u1, tHold]
      generalize h_u2 : tHold _ = u2
      have mid : ∀ H1, Same H H1 → u2 { nx := fun x H' => Q V.non H', rt := Q } [some (V.ref ps), some (V.int (j : Int)), some (V.str wd), some (V.ref pp), some (V.ref pt), some (V.str (nmS (n j))), some (V.bl (decide ((wd = "begin" ∧ n j = 0) ∨ (wd = "end" ∧ (n j = 1 ∨ n j = 2 ∨ n j = 3))))), none] H1 := by
        intro H1 S1
        have A1 := A.same S1
        rw [← h_u2, tHold]
        generalize h_u3 : tHold _ = u3
        walk_at "wps"
        rw [← h_u3, tHold]
        generalize h_u4 : tHold _ = u4
        have refd : ∀ H2, Same H1 H2 → ¬ ((wd = "begin" ∧ n j = 0) ∨ (wd = "end" ∧ (n j = 1 ∨ n j = 2 ∨ n j = 3))) → u4 { nx := fun x H' => Q V.non H', rt := Q } [some (V.ref ps), some (V.int (j : Int)), some (V.str wd), some (V.ref pp), some (V.ref pt), some (V.str (nmS (n j))), some (V.bl (decide ((wd = "begin" ∧ n j = 0) ∨ (wd = "end" ∧ (n j = 1 ∨ n j = 2 ∨ n j = 3))))), some (V.bl true)] H2 := by
          intro H2 S2 hc
          rw [decide_eq_false hc]
          rw [← h_u4, tHold]
          generalize h_u5 : tHold _ = u5
          walk_at "wps"
          rw [← h_u5, tHold]
          walk_at "wps"
          exact q H2 x n p h (fun b o e _ _ _ _ _ => S2 _ _ (S1 _ _ e)) (A1.same S2) J rfl (.inl rfl) (fun hw' hn' => absurd (.inr ⟨hw', hn'⟩) hc)
        have accd : ∀ H2 y m, Same H1 H2 → StAt (tbl C_Shut C_Calling C_Open C_Left C_Leaving C_Waiting C_Closing) H2 y (nmS m) → Jn (up p j (p j + 1)) K' T' (up n j m) (up h j (up (h j) (p j) (T' j))) → wordOf (p j) = wd → ((wd = "begin" ∧ n j = 0) ∨ (wd = "end" ∧ (n j = 1 ∨ n j = 2 ∨ n j = 3))) → u4 { nx := fun x H' => Q V.non H', rt := Q } [some (V.ref ps), some (V.int (j : Int)), some (V.str wd), some (V.ref pp), some (V.ref pt), some (V.str (nmS (n j))), some (V.bl (decide ((wd = "begin" ∧ n j = 0) ∨ (wd = "end" ∧ (n j = 1 ∨ n j = 2 ∨ n j = 3))))), some (V.bl false)] (upd H2 ps (.lst ([V.ref (x 0), V.ref (x 1)].set j (.ref y)))) := by
          intro H2 y m S2 hy J2 ew hc
          rw [decide_eq_true hc]
          have A2 := (A1.same S2).wrS hj hy
          have F2 : FrJ ps pt pk q0 q1 H (upd H2 ps (.lst ([V.ref (x 0), V.ref (x 1)].set j (.ref y)))) := FrJ.wr (fun b o e _ _ _ _ _ => S2 _ _ (S1 _ _ e)) (.inl rfl)
          generalize upd H2 ps (.lst ([V.ref (x 0), V.ref (x 1)].set j (.ref y))) = H3 at *
          rw [← h_u4, tHold]
          generalize h_u5 : tHold _ = u5
          walk_at "wps"
          refine ixA_list (SqL.of A2.hp) (v := .ref (qq q0 q1 j)) (atq hj) ?_
          obtain ⟨cs2, d1, d2, d3⟩ := A2.hq j hj
          refine ⟨tyV_list (SqL.of d1), ixA_list (SqL.of A2.ht) (v := .int (T' j : Nat)) (at2 (g := fun k => V.int (T' k : Nat)) hj) fun pn npn => ⟨_, upd_old d1 npn, Nat.lt_of_lt_of_le (show (cs2.map V.ref).length < 1000 by rw [List.length_map]; omega) (small_ok (Nat.le_refl _)), ?_⟩⟩
          have A3 := (A2.same (same_upd (o := .tup [.str wd, .int (T' j : Nat)]) npn)).app (c := pn) (v := T' j) hj (by rw [upd_same, ew]) (upd_old d1 npn)
          have F3 : FrJ ps pt pk q0 q1 H (upd (upd H3 pn (.tup [.str wd, .int (T' j : Nat)])) (qq q0 q1 j) (.lst (cs2.map V.ref ++ [.ref pn]))) := (F2.same (same_upd npn)).wr (by unfold qq; split; exact .inr (.inr (.inr (.inl rfl))); exact .inr (.inr (.inr (.inr rfl))))
          rw [← h_u5, tHold]
          walk_at "wps"
          exact q _ _ _ _ _ F3 A3 J2 (up_ne (by omega)) (.inr ⟨up_same, fun hw' => by rcases hc with ⟨e, _⟩ | ⟨_, hn'⟩; rw [hw'] at e; exact absurd e (by decide +kernel); exact hn'⟩) (fun _ _ => up_same)
        have na := s.name_a
        exists T.g_NotNow, T.xf_NotNow_state, T.xf_NotNow_wish, T.qv_NotNow, T.q_NotNow_RoadError, T.m_NotNow_RoadError, T.q_NotNow_NotNow, T.m_NotNow_NotNow
        rcases hw with rfl | rfl
        · rw [if_pos rfl]
          refine ixA_list (SqL.of A1.hs) (v := .ref (x j)) (at2 (g := fun k => V.ref (x k)) hj) ?_
          refine ⟨nmS (n j), A1.st j hj, fun nx hx y H2 s2 hy => ?_, fun hx H2 d s2 hd ea hea => ?_⟩
          · rw [nx_begin l7] at hx
            unfold nBegin at hx
            split at hx
            · rename_i c
              cases hx
              have hpj := na.1.mp c
              exact ⟨_, j, s2 _ _ A1.hs, ixN_in hj, accd H2 y 1 s2 hy (J.begin hj c) (by unfold wordOf; rw [if_pos (by omega)]) (.inl ⟨rfl, c⟩)⟩
            · cases hx
          · rw [nx_begin l7] at hx
            unfold nBegin at hx
            split at hx
            · cases hx
            · rename_i c
              exact refd _ (s2.trans (same_upd hea)) (fun z => by rcases z with z | z; exact c z.2; exact absurd z.1 (by decide +kernel))
        · rw [if_neg (by decide +kernel)]
          refine ixA_list (SqL.of A1.hs) (v := .ref (x j)) (at2 (g := fun k => V.ref (x k)) hj) ?_
          refine ⟨nmS (n j), A1.st j hj, fun nx hx y H2 s2 hy => ?_, fun hx H2 d s2 hd ea hea => ?_⟩
          · rw [nx_end l7] at hx
            cases em : nEnd (n j) with
            | none => rw [em] at hx; cases hx
            | some m =>
              rw [em] at hx
              cases hx
              have hn : n j = 1 ∨ n j = 2 ∨ n j = 3 := by
                unfold nEnd at em
                split at em
                · omega
                · split at em
                  · omega
                  · cases em
              have hpj := na.2.mp hn
              exact ⟨_, j, s2 _ _ A1.hs, ixN_in hj, accd H2 y m s2 hy (J.fin hj em) (by unfold wordOf; rw [if_neg (by omega)]) (.inr ⟨rfl, hn⟩)⟩
          · rw [nx_end l7] at hx
            refine refd _ (s2.trans (same_upd hea)) (fun z => ?_)
            rcases z with z | z
            · exact absurd z.1 (by decide +kernel)
            · have hn := z.2
              unfold nEnd at hx
              rcases hn with hn | hn | hn <;> rw [hn] at hx <;> cases hx
      walk_at "wps"
      have in3 : inV (.str (nmS (n j))) [.str "calling", .str "open", .str "left"] = mayB (nmS (n j)) := in3
      have e2 : ∀ b : Bool, (b = true ↔ (n j = 1 ∨ n j = 2 ∨ n j = 3)) → b = decide (((("end" : Str) = "begin") ∧ n j = 0) ∨ ((("end" : Str) = "end") ∧ (n j = 1 ∨ n j = 2 ∨ n j = 3))) := fun b hb => by
        have ne : ¬ (("end" : Str) = "begin") := by decide +kernel
        by_cases c : n j = 1 ∨ n j = 2 ∨ n j = 3
        · rw [hb.mpr c, decide_eq_true (.inr ⟨rfl, c⟩)]
        · rw [decide_eq_false (fun z => by rcases z with z | z; exact ne z.1; exact c z.2)]
          cases b with
          | false => rfl
          | true => exact absurd (hb.mp rfl) c
      rcases hw with rfl | rfl
      · rw [if_pos rfl]
        have ne : ¬ (("begin" : Str) = "end") := by decide +kernel
        by_cases c : n j = 0
        · rw [if_pos ((nm_shut l7).mpr c)]
          have := mid H S0
          rwa [decide_eq_true (.inl ⟨rfl, c⟩)] at this
        · rw [if_neg (fun z => c ((nm_shut l7).mp z)), if_neg ne]
          have := mid H S0
          rwa [decide_eq_false (fun z => by rcases z with z | z; exact c z.2; exact ne z.1)] at this
      · rw [if_neg (by decide +kernel), if_pos rfl]
        intro pl npl
        refine ⟨_, .inl (SqL.of upd_same), rfl, rfl, ?_⟩
        rw [in3, e2 _ (nm_may l7)]
        exact mid _ (same_upd npl)
    · exact h.elim
theorem ok__law_hear (T : Txt K mg C_RoadError C_NotNow C_State C_Shut C_Calling C_Open C_Left C_Leaving C_Waiting C_Closing)        : FnAt P w K mg base (CX1 P w) "_law_hear" 2 ["_law_states", "_law_side", "_law_put", "_law_known", "_law_many"] (sp__law_hear C_Shut C_Calling C_Open C_Left C_Leaving C_Waiting C_Closing) := by
  refine T.d__law_hear.fn sc__law_hear bd__law_hear (fun vs H Q E h => ?_) fun f cdv A outer s H vs Q E HR h => ?_
  · unfold sp__law_hear at h; split at h <;> first | rfl | exact h.elim
  · unfold sp__law_hear at h
    split at h
    · rename_i ps i pp pk m
      refine ⟨_, (pss_one (ps_while PassesOwn.never (pt_cmpR op_lt (pe_ix (ix_K K rfl) (pv 3) (pv 1) (fun _ _ => rfl)) (pv 4) (nomark _)) (pss_cons (ps_if (pt_cmpR (op_eqXK K rfl HR.units) (pe_ix (ix_K K rfl) (pe_ix (ix_K K rfl) (pe_ix (ix_K K rfl) (pv 2) (pv 1) (fun _ _ => rfl)) (pe_ix (ix_K K rfl) (pv 3) (pv 1) (fun _ _ => rfl)) (fun _ _ => rfl)) pe_int (fun _ _ => rfl)) pe_str (nomark _)) (pss_one (ps_asgQ (pe_mtV (pe_ix (ix_K K rfl) (pv 0) (pv 1) (fun _ _ => rfl)) (ok_V_answered T) HR (by decide)) (pg_subQ (pv 0) (pv 1) set_A))) pss_nil)
  (pss_hold (pss_one (ps_asgQ (pe_op (op_addK K rfl) (pe_ix (ix_K K rfl) (pv 3) (pv 1) (fun _ _ => rfl)) pe_int) (pg_subQ (pv 3) (pv 1) set_A))))))), ?_⟩
      obtain ⟨j, many, pt, q0, q1, x, n, p, T', K', h, rfl, hj, rfl, A, J, hm, q⟩ := h
      generalize h_u1 : tHold _ = u1
      walk_at "wps"
      refine ⟨fun mu σ H' => ∃ x' n' K2, mu = many - K2 j ∧ FrJ ps pt pk q0 q1 H H' ∧ Ht (tbl C_Shut C_Calling C_Open C_Left C_Leaving C_Waiting C_Closing) H' ps pp pt pk q0 q1 x' n' p T' K2 h ∧ Jn p K2 T' n' h ∧ max (K2 j) many = max (K' j) many ∧ K2 (1 - j) = K' (1 - j) ∧ K' j ≤ K2 j ∧ σ = [some (V.ref ps), some (V.int (j : Int)), some (V.ref pp), some (V.ref pk), some (V.int (many : Int))], ⟨_, x, n, K', rfl, FrJ.refl, A, J, rfl, rfl, Nat.le_refl _, rfl⟩, ?_⟩
      rintro mu σ H1 ⟨x', n', K2, rfl, F1, A1, J1, mx, ko, kl, rfl⟩
      walk_at "wps"
      refine ixA_list (SqL.of A1.hk) (v := .int (K2 j : Nat)) (at2 (g := fun k => V.int (K2 k : Nat)) hj) ?_
      walk_at "wps"
      by_cases c : K2 j < many
      rotate_left
      · rw [if_neg (by omega)]
        exact q H1 x' n' K2 F1 A1 J1 (by omega) ko
      rw [if_pos (by omega)]
      refine ⟨fun σ' H' => ∃ x' n' K3, many - K3 j < many - K2 j ∧ FrJ ps pt pk q0 q1 H H' ∧ Ht (tbl C_Shut C_Calling C_Open C_Left C_Leaving C_Waiting C_Closing) H' ps pp pt pk q0 q1 x' n' p T' K3 h ∧ Jn p K3 T' n' h ∧ max (K3 j) many = max (K' j) many ∧ K3 (1 - j) = K' (1 - j) ∧ K' j ≤ K3 j ∧ σ' = [some (V.ref ps), some (V.int (j : Int)), some (V.ref pp), some (V.ref pk), some (V.int (many : Int))], fun σ' H' ⟨x3, n3, K3, lt, r⟩ => ⟨_, lt, x3, n3, K3, rfl, r⟩, ?_⟩
      refine ixA_list (SqL.of A1.hp) (v := .ref (qq q0 q1 j)) (atq hj) ?_
      refine ixA_list (SqL.of A1.hk) (v := .int (K2 j : Nat)) (at2 (g := fun k => V.int (K2 k : Nat)) hj) ?_
      obtain ⟨cs, c1, c2, c3⟩ := A1.hq j hj
      have kp : K2 j < p j := by
        have := J1.tp (1 - j) (by omega)
        rw [show 1 - (1 - j) = j by omega] at this
        omega
      have ec : cs[K2 j]? = some (cs[K2 j]'(by omega)) := List.getElem?_eq_getElem (by omega)
      generalize cs[K2 j]'(by omega) = cc at ec
      refine ixA_list (SqL.of c1) (v := .ref cc) (atI_n (by rw [List.getElem?_map, ec]; rfl)) ?_
      refine ixA_tup (SqT.of (c3 _ _ ec)) (v := .str (wordOf (K2 j))) atI_0 ?_
      have JK := J1.know hj (show K2 j < T' (1 - j) by omega)
      obtain ⟨t, s⟩ := J1.sd j hj
      have l7 := s.lt7
      have fin : ∀ (D : Ends) H2 x2 m, (∀ σ' H', (∃ x' n' K3, many - K3 j < many - K2 j ∧ FrJ ps pt pk q0 q1 H H' ∧ Ht (tbl C_Shut C_Calling C_Open C_Left C_Leaving C_Waiting C_Closing) H' ps pp pt pk q0 q1 x' n' p T' K3 h ∧ Jn p K3 T' n' h ∧ max (K3 j) many = max (K' j) many ∧ K3 (1 - j) = K' (1 - j) ∧ K' j ≤ K3 j ∧ σ' = [some (V.ref ps), some (V.int (j : Int)), some (V.ref pp), some (V.ref pk), some (V.int (many : Int))]) → D.nx σ' H') → FrJ ps pt pk q0 q1 H H2 → Ht (tbl C_Shut C_Calling C_Open C_Left C_Leaving C_Waiting C_Closing) H2 ps pp pt pk q0 q1 x2 (up n' j m) p T' K2 h → Jn p (up K2 j (K2 j + 1)) T' (up n' j m) h → u1 D [some (V.ref ps), some (V.int (j : Int)), some (V.ref pp), some (V.ref pk), some (V.int (many : Int))] H2 := by
        intro D H2 x2 m hD F2 A2 J2
        rw [← h_u1, tHold]
        walk_at "wps"
        refine ixA_list (SqL.of A2.hk) (v := .int (K2 j : Nat)) (at2 (g := fun k => V.int (K2 k : Nat)) hj) ?_
        walk_at "wps"
        refine ⟨_, j, A2.hk, ixN_in hj, ?_⟩
        rw [show ((K2 j : Nat) : Int) + 1 = ((K2 j + 1 : Nat) : Int) from rfl]
        exact hD _ _ ⟨x2, up n' j m, up K2 j (K2 j + 1), by rw [up_same]; omega, F2.wr (.inr (.inr (.inl rfl))), A2.wrK hj, J2, by rw [up_same]; omega, by rw [up_ne (by omega)]; exact ko, by rw [up_same]; omega, rfl⟩
      walk_at "wps"
      by_cases cw : K2 j % 2 = 0
      · rw [if_neg (by unfold wordOf; rw [if_pos cw]; decide +kernel)]
        rw [if_neg (by omega)] at JK
        exact fin _ H1 x' (n' j) (fun _ _ z => z) F1 (by rw [up_id]; exact A1) JK
      · rw [if_pos (by unfold wordOf; rw [if_neg cw])]
        rw [if_pos (by omega)] at JK
        refine ixA_list (SqL.of A1.hs) (v := .ref (x' j)) (at2 (g := fun k => V.ref (x' k)) hj) ?_
        refine ⟨nmS (n' j), A1.st j hj, fun nx hx y H2 s2 hy => ?_⟩
        rw [nx_answered l7] at hx
        cases hx
        exact ⟨_, j, (A1.same s2).hs, ixN_in hj, fin _ _ _ _ (fun _ _ z => z) ((F1.same s2).wr (.inl rfl)) ((A1.same s2).wrS hj hy) JK⟩
    · exact h.elim
theorem ok__law_take (T : Txt K mg C_RoadError C_NotNow C_State C_Shut C_Calling C_Open C_Left C_Leaving C_Waiting C_Closing)        : FnAt P w K mg base (CX1 P w) "_law_take" 3 ["_law_states", "_law_side", "_law_put", "_law_taken", "_law_known"] (sp__law_take C_Shut C_Calling C_Open C_Left C_Leaving C_Waiting C_Closing) := by
  refine T.d__law_take.fn sc__law_take bd__law_take (fun vs H Q E h => ?_) fun f cdv A outer s H vs Q E HR h => ?_
  · unfold sp__law_take at h; split at h <;> first | rfl | exact h.elim
  · unfold sp__law_take at h
    split at h
    · rename_i ps i pp pt pk
      refine ⟨_, (pss_cons (ps_setQ (i := 5) sc__law_take.nd rfl (Or.inl rfl) (pe_ix (ix_K K rfl) (pv 2) (pe_op op_sub pe_int (pv 1)) (fun _ _ => rfl)))
  (pss_hold (pss_cons (ps_if (pt_cmpR (op_eqXK K rfl HR.units) (pe_ix (ix_K K rfl) (pv 3) (pv 1) (fun _ _ => rfl)) (pe_callBQ (call_lenK K rfl) (by rfl) T.b_len bt_len (pa_q (pv 5) pa_nil)) (nomark _)) (pss_one ps_retN) pss_nil)
  (pss_hold (pss_cons (ps_asgQ (pe_ix (ix_K K rfl) (pv 5) (pe_ix (ix_K K rfl) (pv 3) (pv 1) (fun _ _ => rfl)) (fun _ _ => rfl)) (pg_tupX K (n := 2) rfl rfl (pgs_q (pg_name (i := 6) sc__law_take.nd rfl (Or.inl rfl)) (pgs_q (pg_name (i := 7) sc__law_take.nd rfl (Or.inl rfl)) pgs_nil))))
  (pss_hold (pss_cons (ps_exprQ (pe_fnQ (ok__law_hear T) HR (by decide) rfl (pa_q (pv 0) (pa_q (pv 1) (pa_q (pv 2) (pa_q (pv 4) (pa_q (pv 7) pa_nil)))))))
  (pss_hold (pss_cons (ps_asgQ (pe_op (op_addK K rfl) (pe_ix (ix_K K rfl) (pv 3) (pv 1) (fun _ _ => rfl)) pe_int) (pg_subQ (pv 3) (pv 1) set_A))
  (pss_hold (pss_cons (ps_if (PW.pt (pw_and (pt_cmpR (op_eqXK K rfl HR.units) (pv 6) pe_str (nomark _)) (pw_and1 (pt_cmpR (op_eqXK K rfl HR.units) (pe_mtV (pe_ix (ix_K K rfl) (pv 0) (pv 1) (fun _ _ => rfl)) (ok_V_name T) HR (by decide)) pe_str (nomark _))))) (pss_one (ps_exprQ (pe_appendK K rfl (pe_ix (ix_K K rfl) (pv 2) (pv 1) (fun _ _ => rfl)) (pe_tup (pa_q pe_str (pa_q (pe_ix (ix_K K rfl) (pv 3) (pv 1) (fun _ _ => rfl)) pa_nil)))))) pss_nil)
  (pss_hold (pss_one (ps_if (pt_cmpR (op_eqXK K rfl HR.units) (pv 6) pe_str (nomark _)) (pss_one (ps_asgQ (pe_mtV (pe_ix (ix_K K rfl) (pv 0) (pv 1) (fun _ _ => rfl)) (ok_V_begun T) HR (by decide)) (pg_subQ (pv 0) (pv 1) set_A))) (pss_one (ps_asgQ (pe_mtV (pe_ix (ix_K K rfl) (pv 0) (pv 1) (fun _ _ => rfl)) (ok_V_ended T) HR (by decide)) (pg_subQ (pv 0) (pv 1) set_A))))))))))))))))), ?_⟩
      obtain ⟨j, q0, q1, x, n, p, T', K', h, rfl, hj, A, J, hb, q⟩ := h
      have j1 : 1 - j < 2 := by omega
      generalize h_u1 : tHold _ = u1
      walk_at "wps"
      rw [show (1 : Int) - (j : Int) = ((1 - j : Nat) : Int) by omega]
      refine ixA_list (SqL.of A.hp) (v := .ref (qq q0 q1 (1 - j))) (atq j1) ?_
      rw [← h_u1, tHold]
      generalize h_u2 : tHold _ = u2
      walk_at "wps"
      refine ixA_list (SqL.of A.ht) (v := .int (T' j : Nat)) (at2 (g := fun k => V.int (T' k : Nat)) hj) ?_
      obtain ⟨cs, c1, c2, c3⟩ := A.hq (1 - j) j1
      refine ⟨_, .inl (SqL.of c1), ?_⟩
      walk_at "wps"
      rw [List.length_map, c2]
      have tp := J.tp j hj
      by_cases ce : T' j = p (1 - j)
      · rw [if_pos (by omega)]
        exact q H x n p T' K' h FrJ.refl A J rfl rfl rfl (.inl rfl) (Nat.le_refl _) (fun hh => by omega)
      rw [if_neg (by omega)]
      have tl : T' j < p (1 - j) := by omega
      have ec : cs[T' j]? = some (cs[T' j]'(by omega)) := List.getElem?_eq_getElem (by omega)
      generalize cs[T' j]'(by omega) = cc at ec
      have hcc := c3 _ _ ec
      rw [← h_u2, tHold]
      generalize h_u3 : tHold _ = u3
      walk_at "wps"
      refine ixA_list (SqL.of A.ht) (v := .int (T' j : Nat)) (at2 (g := fun k => V.int (T' k : Nat)) hj) ?_
      refine ixA_list (SqL.of c1) (v := .ref cc) (atI_n (by rw [List.getElem?_map, ec]; rfl)) ?_
      exists hcc
      have hh0 := J.h0 (1 - j) j1 (T' j) tl
      have hh1 := J.h1 (1 - j) j1 (T' j) tl
      rw [← h_u3, tHold]
      generalize h_u4 : tHold _ = u4
      walk_at "wps"
      refine ⟨j, h (1 - j) (T' j), pt, q0, q1, x, n, p, T', K', h, rfl, hj, rfl, A, J, hh1, fun H1 x1 n1 K1 F1 A1 J1 k1 k2 => ?_⟩
      have kk : 2 * (T' j / 2) ≤ K1 j := by omega
      rw [← h_u4, tHold]
      generalize h_u5 : tHold _ = u5
      walk_at "wps"
      refine ixA_list (SqL.of A1.ht) (v := .int (T' j : Nat)) (at2 (g := fun k => V.int (T' k : Nat)) hj) ?_
      walk_at "wps"
      refine ⟨_, j, A1.ht, ixN_in hj, ?_⟩
      rw [show ((T' j : Nat) : Int) + 1 = ((T' j + 1 : Nat) : Int) from rfl]
      have A2 := A1.wrT (m := T' j + 1) hj
      have F2 : FrJ ps pt pk q0 q1 H (upd H1 pt (.lst ([V.int (T' 0 : Nat), V.int (T' 1 : Nat)].set j (.int ((T' j + 1 : Nat) : Int))))) := F1.wr (.inr (.inl rfl))
      generalize upd H1 pt (.lst ([V.int (T' 0 : Nat), V.int (T' 1 : Nat)].set j (.int ((T' j + 1 : Nat) : Int)))) = H2 at *
      obtain ⟨t, s⟩ := J1.sd j hj
      have l7 := s.lt7
      have na := s.name_a
      have t0 := s.t0; have sh := s.sh
      rw [← h_u5, tHold]
      generalize h_u6 : tHold _ = u6
      have fin : ∀ H3 p3 h3, FrJ ps pt pk q0 q1 H H3 → Ht (tbl C_Shut C_Calling C_Open C_Left C_Leaving C_Waiting C_Closing) H3 ps pp pt pk q0 q1 x1 n1 p3 (up T' j (T' j + 1)) K1 h3 → (T' j % 2 = 0 → Jn p3 K1 (up T' j (T' j + 1)) (up n1 j (nBegun (n1 j))) h3) → (T' j % 2 = 1 → Jn p3 K1 (up T' j (T' j + 1)) (up n1 j (nEnded (n1 j))) h3) → p3 (1 - j) = p (1 - j) → (p3 j = p j ∨ (p3 j = p j + 1 ∧ p j < p (1 - j))) → u6 { nx := fun x H' => Q V.non H', rt := Q } [some (V.ref ps), some (V.int (j : Int)), some (V.ref pp), some (V.ref pt), some (V.ref pk), some (V.ref (qq q0 q1 (1 - j))), some (V.str (wordOf (T' j))), some (V.int (h (1 - j) (T' j) : Nat))] H3 := by
        intro H3 p3 h3 F3 A3 Jb Je po pj
        have to : up T' j (T' j + 1) (1 - j) = T' (1 - j) := up_ne (by omega)
        have ti : T' j < up T' j (T' j + 1) j := by rw [up_same]; omega
        rw [← h_u6, tHold]
        walk_at "wps"
        by_cases cw : T' j % 2 = 0
        · rw [if_pos (by unfold wordOf; rw [if_pos cw])]
          refine ixA_list (SqL.of A3.hs) (v := .ref (x1 j)) (at2 (g := fun k => V.ref (x1 k)) hj) ?_
          refine ⟨nmS (n1 j), A3.st j hj, fun nx hx y H4 s4 hy => ?_⟩
          rw [nx_begun l7] at hx
          cases hx
          exact ⟨_, j, (A3.same s4).hs, ixN_in hj, q _ _ _ _ _ _ _ ((F3.same s4).wr (.inl rfl)) ((A3.same s4).wrS hj hy) (Jb cw) po to k2 pj (by omega) (fun _ => ti)⟩
        · rw [if_neg (by unfold wordOf; rw [if_neg cw]; decide +kernel)]
          refine ixA_list (SqL.of A3.hs) (v := .ref (x1 j)) (at2 (g := fun k => V.ref (x1 k)) hj) ?_
          refine ⟨nmS (n1 j), A3.st j hj, fun nx hx y H4 s4 hy => ?_⟩
          rw [nx_ended l7] at hx
          cases hx
          exact ⟨_, j, (A3.same s4).hs, ixN_in hj, q _ _ _ _ _ _ _ ((F3.same s4).wr (.inl rfl)) ((A3.same s4).wrS hj hy) (Je (by omega)) po to k2 pj (by omega) (fun _ => ti)⟩
      walk_at "wps"
      by_cases cw : T' j % 2 = 0
      rotate_left
      · rw [if_neg (by unfold wordOf; rw [if_neg cw]; decide +kernel)]
        exact fin H2 p h F2 A2 (fun z => absurd z cw) (fun _ => J1.take2 hj tl kk (by omega)) rfl (.inl rfl)
      rw [if_pos (by unfold wordOf; rw [if_pos cw])]
      refine ixA_list (SqL.of A2.hs) (v := .ref (x1 j)) (at2 (g := fun k => V.ref (x1 k)) hj) ?_
      refine ⟨nmS (n1 j), A2.st j hj, ?_⟩
      by_cases cn : n1 j = 0
      rotate_left
      · rw [if_neg (fun z => cn ((nm_shut l7).mp z))]
        exact fin H2 p h F2 A2 (fun _ => J1.take1 hj tl kk cw cn) (fun z => by omega) rfl (.inl rfl)
      rw [if_pos ((nm_shut l7).mpr cn)]
      have hpj := na.1.mp cn
      have hTj := sh hpj
      refine ixA_list (SqL.of A2.hp) (v := .ref (qq q0 q1 j)) (atq hj) ?_
      obtain ⟨cs2, d1, d2, d3⟩ := A2.hq j hj
      refine ⟨tyV_list (SqL.of d1), ixA_list (SqL.of A2.ht) (v := .int ((T' j + 1 : Nat) : Int)) ((at2 (g := fun k => V.int ((up T' j (T' j + 1) k : Nat) : Int)) hj).trans (by show some (V.int _) = _; rw [up_same])) fun pn npn => ⟨_, upd_old d1 npn, Nat.lt_of_lt_of_le (show (cs2.map V.ref).length < 1000 by rw [List.length_map]; omega) (small_ok (Nat.le_refl _)), ?_⟩⟩
      have A3 := (A2.same (same_upd (o := .tup [.str "begin", .int ((T' j + 1 : Nat) : Int)]) npn)).app (c := pn) (v := T' j + 1) hj (by rw [upd_same]; unfold wordOf; rw [if_pos (by omega)]) (upd_old d1 npn)
      have J3 := J1.take0 hj tl kk cw cn
      refine fin _ _ _ ((F2.same (same_upd npn)).wr ?_) A3 (fun _ => by rw [cn]; exact J3) (fun z => by omega) (up_ne (by omega)) (.inr ⟨up_same, by omega⟩)
      unfold qq
      split
      · exact .inr (.inr (.inr (.inl rfl)))
      · exact .inr (.inr (.inr (.inr rfl)))
    · exact h.elim
theorem ok__law_right (T : Txt K mg C_RoadError C_NotNow C_State C_Shut C_Calling C_Open C_Left C_Leaving C_Waiting C_Closing)        : FnAt P w K mg base (CX1 P w) "_law_right" 3 ["_law_states", "_law_put", "_law_taken", "_law_known"] (sp__law_right C_Shut C_Calling C_Open C_Left C_Leaving C_Waiting C_Closing) := by
  refine T.d__law_right.fn sc__law_right bd__law_right (fun vs H Q E h => ?_) fun f cdv A outer s H vs Q E HR h => ?_
  · unfold sp__law_right at h; split at h <;> first | rfl | exact h.elim
  · unfold sp__law_right at h
    split at h
    · rename_i ps pp pt pk
      refine ⟨_, (pss_cons (ps_for PassesOwn.never rfl (pj_range1 rfl T.b_range (pa_q pe_int pa_nil)) (pg_name (i := 4) sc__law_right.nd rfl (Or.inl rfl)) (pss_one (ps_if (pt_cmpR (op_neXK K rfl HR.units) (pe_mtV (pe_ix (ix_K K rfl) (pv 0) (pv 4) (fun _ _ => rfl)) (ok_V_name T) HR (by decide)) (pe_fnQ (ok__law_name T) HR (by decide) rfl (pa_q (pv 4) (pa_q (pv 1) (pa_q (pv 2) (pa_q (pv 3) pa_nil))))) (nomark _)) (pss_one (ps_ret pe_bl)) pss_nil)))
  (pss_hold (pss_one (ps_ret pe_bl)))), ?_⟩
      obtain ⟨q0, q1, x, n, p, T', K', h, A, J, hb, q⟩ := h
      generalize h_u1 : tHold _ = u1
      walk_at "wps"
      refine fo_rng (lo := 0) (n := 2) (fun k σ H' => Same H H' ∧ ∃ v4, σ = [some (V.ref ps), some (V.ref pp), some (V.ref pt), some (V.ref pk), v4]) ⟨Same.refl _, none, rfl⟩ (fun k σ H' hk hp => ?_) (fun σ H' hp => ?_)
      · obtain ⟨S, v4, rfl⟩ := hp
        have A' := A.same S
        walk_at "wps"
        rw [Int.zero_add]
        refine ixA_list (SqL.of A'.hs) (v := .ref (x k)) (at2 (g := fun k => V.ref (x k)) hk) ?_
        refine ⟨nmS (n k), A'.st k hk, k, ps, q0, q1, x, n, p, T', K', h, rfl, hk, A', J, hb, fun H2 s2 => ?_⟩
        walk_at "wps"
        exact ⟨S.trans s2, _, rfl⟩
      · obtain ⟨S, v4, rfl⟩ := hp
        show u1 _ _ _
        rw [← h_u1, tHold]
        walk_at "wps"
        exact q _ S
    · exact h.elim
theorem ok__law_calm (T : Txt K mg C_RoadError C_NotNow C_State C_Shut C_Calling C_Open C_Left C_Leaving C_Waiting C_Closing)        : FnAt P w K mg base (CX1 P w) "_law_calm" 5 ["_law_states", "_law_put", "_law_taken", "_law_known"] (sp__law_calm C_Shut C_Calling C_Open C_Left C_Leaving C_Waiting C_Closing) := by
  refine T.d__law_calm.fn sc__law_calm bd__law_calm (fun vs H Q E h => ?_) fun f cdv A outer s H vs Q E HR h => ?_
  · unfold sp__law_calm at h; split at h <;> first | rfl | exact h.elim
  · unfold sp__law_calm at h
    split at h
    · rename_i ps pp pt pk
      refine ⟨_, (pss_cons (ps_for PassesOwn.never rfl (pj_range1 rfl T.b_range (pa_q (pe_op (op_addK K rfl) (pe_op (op_addK K rfl) (pe_op op_mul pe_int (pe_callBQ (call_lenK K rfl) (by rfl) T.b_len bt_len (pa_q (pe_ix (ix_K K rfl) (pv 1) pe_int (fun _ _ => rfl)) pa_nil))) (pe_op op_mul pe_int (pe_callBQ (call_lenK K rfl) (by rfl) T.b_len bt_len (pa_q (pe_ix (ix_K K rfl) (pv 1) pe_int (fun _ _ => rfl)) pa_nil)))) pe_int) pa_nil)) (pg_name (i := 4) sc__law_calm.nd rfl (Or.inl rfl)) (pss_one (ps_for PassesOwn.never rfl (pj_range1 rfl T.b_range (pa_q pe_int pa_nil)) (pg_name (i := 5) sc__law_calm.nd rfl (Or.inl rfl)) (pss_mid (ps_if (pt_cmpR (op_inK K rfl) (pe_mtV (pe_ix (ix_K K rfl) (pv 0) (pv 5) (fun _ _ => rfl)) (ok_V_name T) HR (by decide)) (pe_lst (pa_q pe_str (pa_q pe_str (pa_q pe_str pa_nil)))) (nomarkQ rfl)) (pss_one (ps_if (pt_not (pt_q (pe_fnQ (ok__law_wish T) HR (by decide) rfl (pa_q (pv 0) (pa_q (pv 5) (pa_q pe_str (pa_q (pv 1) (pa_q (pv 2) pa_nil)))))))) (pss_one (ps_ret pe_bl)) pss_nil)) pss_nil)
  (pss_hold (pss_cons (ps_exprQ (pe_fnQ (ok__law_take T) HR (by decide) rfl (pa_q (pv 0) (pa_q (pv 5) (pa_q (pv 1) (pa_q (pv 2) (pa_q (pv 3) pa_nil)))))))
  (pss_hold (pss_cons (ps_exprQ (pe_fnQ (ok__law_hear T) HR (by decide) rfl (pa_q (pv 0) (pa_q (pv 5) (pa_q (pv 1) (pa_q (pv 3) (pa_q (pe_ix (ix_K K rfl) (pv 2) (pe_op op_sub pe_int (pv 5)) (fun _ _ => rfl)) pa_nil)))))))
  (pss_hold (pss_one (ps_if (pt_not (pt_q (pe_fnQ (ok__law_right T) HR (by decide) rfl (pa_q (pv 0) (pa_q (pv 1) (pa_q (pv 2) (pa_q (pv 3) pa_nil))))))) (pss_one (ps_ret pe_bl)) pss_nil)))))))))))
  (pss_hold (pss_one (ps_ret (pe_and (pe_cmpR (op_eqXK K rfl HR.units) (pe_mtV (pe_ix (ix_K K rfl) (pv 0) pe_int (fun _ _ => rfl)) (ok_V_name T) HR (by decide)) pe_str (nomark _)) (pe_one (pe_cmpR (op_eqXK K rfl HR.units) (pe_mtV (pe_ix (ix_K K rfl) (pv 0) pe_int (fun _ _ => rfl)) (ok_V_name T) HR (by decide)) pe_str (nomark _)))))))), ?_⟩
      obtain ⟨q0, q1, x, n, p, T', K', h, A, J, hb, q⟩ := h
      obtain ⟨M, C, hR⟩ := Cm.start J
      have hb0 := hb 0 (by omega)
      have hb1 := hb 1 (by omega)
      have hM : 2 * M ≤ 101 := by have := C.ge; omega
      generalize h_c1 : tHold _ = c1
      generalize h_u1 : tHold _ = u1
      walk_at "wps"
      refine ixA_list (SqL.of A.hp) (v := .ref q0) atI_0 ?_
      obtain ⟨cs, a1, a2, a3⟩ := A.hq 0 (by omega)
      refine ⟨_, .inl (SqL.of a1), ?_⟩
      rw [List.length_map, a2]
      walk_at "wps"
      refine ixA_list (SqL.of A.hp) (v := .ref q1) atI_1 ?_
      obtain ⟨ct, e1, e2, e3⟩ := A.hq 1 (by omega)
      refine ⟨_, .inl (SqL.of e1), ?_⟩
      rw [List.length_map, e2]
      walk_at "wps"
      refine ⟨⟨by omega, by omega⟩, ?_⟩
      rw [show (2 * ((p 0 : Nat) : Int) + 2 * ((p 1 : Nat) : Int) + 8).toNat = 2 * p 0 + 2 * p 1 + 8 by omega]
      generalize hR0 : Rm M p T' = R0 at *
      refine fo_rng (lo := 0) (n := 2 * p 0 + 2 * p 1 + 8) (fun k σ H' => ∃ x n p T K h v4 v5, FrJ ps pt pk q0 q1 H H' ∧ Ht (tbl C_Shut C_Calling C_Open C_Left C_Leaving C_Waiting C_Closing) H' ps pp pt pk q0 q1 x n p T K h ∧ Jn p K T n h ∧ Cm M p ∧ (Rm M p T + k ≤ R0 ∨ (Rm M p T = 0 ∧ (R0 < k → n 0 = 0 ∧ n 1 = 0))) ∧ σ = [some (V.ref ps), some (V.ref pp), some (V.ref pt), some (V.ref pk), v4, v5]) ⟨x, n, p, T', K', h, none, none, FrJ.refl, A, J, C, .inl (by omega), rfl⟩ (fun k σ H1 hk hp => ?_) (fun σ H1 hp => ?_)
      rotate_left
      · obtain ⟨x1, n1, p1, T1, K1, h1, v4, v5, F1, A1, J1, C1, hr, rfl⟩ := hp
        have hz : n1 0 = 0 ∧ n1 1 = 0 := by
          rcases hr with hr | hr
          · omega
          · exact hr.2 (by omega)
        show u1 _ _ _
        rw [← h_u1, tHold]
        walk_at "wps"
        refine ixA_list (SqL.of A1.hs) (v := .ref (x1 0)) atI_0 ⟨nmS (n1 0), A1.st 0 (by omega), ?_⟩
        rw [hz.1, if_pos (show nmS 0 = "shut" from rfl)]
        refine ixA_list (SqL.of A1.hs) (v := .ref (x1 1)) atI_1 ⟨nmS (n1 1), A1.st 1 (by omega), ?_⟩
        rw [hz.2, decide_eq_true (show nmS 0 = "shut" from rfl)]
        exact q _
      · obtain ⟨x1, n1, p1, T1, K1, h1, v4, v5, F1, A1, J1, C1, hr, rfl⟩ := hp
        walk_at "wps"
        refine fo_rng (lo := 0) (n := 2) (fun s σ H' => ∃ x n p T K h v4 v5, FrJ ps pt pk q0 q1 H H' ∧ Ht (tbl C_Shut C_Calling C_Open C_Left C_Leaving C_Waiting C_Closing) H' ps pp pt pk q0 q1 x n p T K h ∧ Jn p K T n h ∧ Cm M p ∧ (s = 0 → p = p1 ∧ T = T1 ∧ n = n1) ∧ (s = 1 → Tn M 0 p1 T1 n1 p T K) ∧ (s = 2 → ∃ p2 T2 n2 K2 h2, Jn p2 K2 T2 n2 h2 ∧ Tn M 0 p1 T1 n1 p2 T2 K2 ∧ Tn M 1 p2 T2 n2 p T K ∧ K 0 = K2 0) ∧ σ = [some (V.ref ps), some (V.ref pp), some (V.ref pt), some (V.ref pk), v4, v5]) ⟨x1, n1, p1, T1, K1, h1, _, _, F1, A1, J1, C1, fun _ => ⟨rfl, rfl, rfl⟩, (fun z => by omega), (fun z => by omega), rfl⟩ (fun s σ H2 hs hp => ?_) (fun σ H2 hp => ?_)
        rotate_left
        · obtain ⟨x2, n2, p2, T2, K2, h2, v4, v5, F2, A2, J2, C2, _, _, hh, rfl⟩ := hp
          obtain ⟨p3, T3, n3, K3, h3, J3, t0, t1, kk⟩ := hh rfl
          refine ⟨x2, n2, p2, T2, K2, h2, _, _, F2, A2, J2, C2, ?_, rfl⟩
          rcases calm_step J1 C1 t0 J3 t1 kk J2 with z | ⟨z1, z2⟩
          · rcases hr with hr | hr
            · exact .inl (by omega)
            · omega
          · refine .inr ⟨z1, fun hk' => z2 ?_⟩
            rcases hr with hr | hr
            · omega
            · exact hr.1
        · obtain ⟨x2, n2, p2, T2, K2, h2, v4, v5, F2, A2, J2, C2, i0, i1, _, rfl⟩ := hp
          have s1 : 1 - s < 2 := by omega
          obtain ⟨t, sd⟩ := J2.sd s hs
          have l7 := sd.lt7
          have na := sd.name_a
          have cb0 := C2.le s hs
          have cb1 := C2.le (1 - s) s1
          refine ⟨fun σ H' => ∃ x3 n3 p3 h3, FrJ ps pt pk q0 q1 H H' ∧ Ht (tbl C_Shut C_Calling C_Open C_Left C_Leaving C_Waiting C_Closing) H' ps pp pt pk q0 q1 x3 n3 p3 T2 K2 h3 ∧ Jn p3 K2 T2 n3 h3 ∧ p3 (1 - s) = p2 (1 - s) ∧ (p3 s = p2 s ∨ (p3 s = p2 s + 1 ∧ (n2 s = 1 ∨ n2 s = 2 ∨ n2 s = 3))) ∧ (n2 s = 1 ∨ n2 s = 2 ∨ n2 s = 3 → p3 s = p2 s + 1) ∧ σ = [some (V.ref ps), some (V.ref pp), some (V.ref pt), some (V.ref pk), v4, some (V.int (s : Int))], ?_, ?_⟩
          · walk_at "wps"
            rw [Int.zero_add]
            refine ixA_list (SqL.of A2.hs) (v := .ref (x2 s)) (at2 (g := fun k => V.ref (x2 k)) hs) ⟨nmS (n2 s), A2.st s hs, fun pl npl => ⟨_, .inl (SqL.of upd_same), rfl, rfl, ?_⟩⟩
            have s5 := same_upd (H := H2) (o := .lst [.str "calling", .str "open", .str "left"]) npl
            have in3 : inV (.str (nmS (n2 s))) [.str "calling", .str "open", .str "left"] = mayB (nmS (n2 s)) := in3
            rw [in3]
            by_cases c : n2 s = 1 ∨ n2 s = 2 ∨ n2 s = 3
            · rw [if_pos ((nm_may l7).mpr c)]
              refine ⟨s, pk, q0, q1, x2, n2, p2, T2, K2, h2, rfl, hs, A2.same s5, J2, by omega, fun H' x' n' p' h' F' A' J' e1 e2 e3 => ?_⟩
              exact ⟨x', n', p', h', (F2.same s5).trans F', A', J', e1, (by rcases e2 with e | e; exact .inl e; exact .inr ⟨e.1, c⟩), (fun _ => e3 trivial c), rfl⟩
            · rw [if_neg (fun z => c ((nm_may l7).mp z))]
              exact ⟨x2, n2, p2, h2, F2.same s5, A2.same s5, J2, rfl, .inl rfl, (fun z => absurd z c), rfl⟩
          rintro σ H3 ⟨x3, n3, p3, h3, F3, A3, J3, po, pj, pf, rfl⟩
          refine gen_ends fun DD eDD => ?_
          rw [← h_c1, tHold]
          generalize h_c2 : tHold _ = c2
          walk_at "wps"
          have p3b : p3 s ≤ 2 * M := by
            rcases pj with e | ⟨e, hn⟩
            · omega
            · have := na.2.mp hn
              omega
          refine ⟨s, q0, q1, x3, n3, p3, T2, K2, h3, rfl, hs, A3, J3, by omega, fun H4 x4 n4 p4 T4 K4 h4 F4 A4 J4 po4 to4 ko4 pj4 tm4 tk4 => ?_⟩
          rw [← h_c2, tHold]
          generalize h_c3 : tHold _ = c3
          walk_at "wps"
          rw [show (1 : Int) - (s : Int) = ((1 - s : Nat) : Int) by omega]
          refine ixA_list (SqL.of A4.ht) (v := .int (T4 (1 - s) : Nat)) (at2 (g := fun k => V.int (T4 k : Nat)) s1) ?_
          refine ⟨s, T4 (1 - s), pt, q0, q1, x4, n4, p4, T4, K4, h4, rfl, hs, rfl, A4, J4, Nat.le_refl _, fun H5 x5 n5 K5 F5 A5 J5 k5 l5 => ?_⟩
          have kt := J4.kt s hs
          have p4b : p4 s ≤ 2 * M := by omega
          have p4o : p4 (1 - s) ≤ 2 * M := by omega
          rw [← h_c3, tHold]
          walk_at "wps"
          refine ⟨q0, q1, x5, n5, p4, T4, K5, h4, A5, J5, fun k hk => ?_, fun H6 s6 => ?_⟩
          · rcases (show k = s ∨ k = 1 - s by omega) with rfl | rfl <;> omega
          rw [eDD]
          have tn : Tn M s p2 T2 n2 p4 T4 K5 := ⟨by rw [po4, po], to4, by omega, tm4, (fun z => by have := pf z; omega), (fun z => tk4 (by omega)), p4b, by rw [k5]; omega⟩
          refine ⟨x5, n5, p4, T4, K5, h4, _, _, ((F3.trans F4).trans F5).same s6, A5.same s6, J5, tn.cm hs C2, (fun z => by omega), (fun z => ?_), (fun z => ?_), rfl⟩
          · obtain rfl : s = 0 := by omega
            obtain ⟨rfl, rfl, rfl⟩ := i0 rfl
            exact tn
          · obtain rfl : s = 1 := by omega
            exact ⟨p2, T2, n2, K2, h2, J2, i1 rfl, tn, l5.trans ko4⟩
    · exact h.elim
theorem ok_law (T : Txt K mg C_RoadError C_NotNow C_State C_Shut C_Calling C_Open C_Left C_Leaving C_Waiting C_Closing) : FnAt P w K mg base CX0 "law" 6 ["_law_script"] (spLaw K) := by
  refine T.d_law.fn sc_law bd_law (fun vs H Q E h => ?_) fun f cdv A outer s H vs Q E HR h => ?_
  · unfold spLaw at h; split at h <;> first | rfl | exact h.elim
  · unfold spLaw at h
    split at h
    · rename_i a
      obtain ⟨ns, hS, hl, _, q⟩ := h
      refine ⟨_, (pss_cons (ps_setQ (i := 1) sc_law.nd rfl (Or.inl rfl) (pe_lst (pa_q (pe_mkN T.k_Shut T.ni_Shut rfl) (pa_q (pe_mkN T.k_Shut T.ni_Shut rfl) pa_nil))))
  (pss_hold (pss_cons (ps_setQ (i := 2) sc_law.nd rfl (Or.inl rfl) (pe_lst (pa_q (pe_lst pa_nil) (pa_q (pe_lst pa_nil) pa_nil))))
  (pss_hold (pss_cons (ps_setQ (i := 3) sc_law.nd rfl (Or.inl rfl) (pe_lst (pa_q pe_int (pa_q pe_int pa_nil))))
  (pss_hold (pss_cons (ps_setQ (i := 4) sc_law.nd rfl (Or.inl rfl) (pe_lst (pa_q pe_int (pa_q pe_int pa_nil))))
  (pss_hold (pss_cons (ps_for PassesOwn.never rfl (pi_seqK K rfl (pe_slice (sl_K K rfl) (pv 0) (po_some pe_int) (po_some pe_int))) (pg_name (i := 5) sc_law.nd rfl (Or.inl rfl)) (pss_cons (ps_setQ (i := 6) sc_law.nd rfl (Or.inl rfl) (pe_op op_mod (pe_op op_fdiv (pv 5) pe_int) pe_int))
  (pss_hold (pss_cons (ps_setQ (i := 7) sc_law.nd rfl (Or.inl rfl) (pe_op op_mod (pv 5) pe_int))
  (pss_hold (pss_cons (ps_setQ (i := 8) sc_law.nd rfl (Or.inl rfl) pe_bl)
  (pss_hold (pss_cons (ps_if (PW.pt (pw_or (pt_cmpR (op_eqXK K rfl HR.units) (pv 7) pe_int (nomark _)) (pw_or1 (pt_cmpR (op_eqXK K rfl HR.units) (pv 7) pe_int (nomark _))))) (pss_one (ps_setQ (i := 8) sc_law.nd rfl (Or.inl rfl) (pe_fnQ (ok__law_wish T) HR (by decide) rfl (pa_q (pv 1) (pa_q (pv 6) (pa_q (pe_ix (ix_K K rfl) (pe_lst (pa_q pe_str (pa_q pe_str pa_nil))) (pv 7) (fun _ _ => rfl)) (pa_q (pv 2) (pa_q (pv 3) pa_nil)))))))) (pss_one (ps_if (pt_cmpR op_lt (pv 7) pe_int (nomark _)) (pss_one (ps_exprQ (pe_fnQ (ok__law_take T) HR (by decide) rfl (pa_q (pv 1) (pa_q (pv 6) (pa_q (pv 2) (pa_q (pv 3) (pa_q (pv 4) pa_nil)))))))) (pss_cons (ps_setQ (i := 9) sc_law.nd rfl (Or.inl rfl) (pe_op op_mod (pe_op op_fdiv (pv 5) pe_int) (pe_op (op_addK K rfl) (pe_op op_sub (pe_ix (ix_K K rfl) (pv 3) (pe_op op_sub pe_int (pv 6)) (fun _ _ => rfl)) (pe_ix (ix_K K rfl) (pv 4) (pv 6) (fun _ _ => rfl))) pe_int)))
  (pss_one (ps_exprQ (pe_fnQ (ok__law_hear T) HR (by decide) rfl (pa_q (pv 1) (pa_q (pv 6) (pa_q (pv 2) (pa_q (pv 4) (pa_q (pe_op op_sub (pe_ix (ix_K K rfl) (pv 3) (pe_op op_sub pe_int (pv 6)) (fun _ _ => rfl)) (pv 9)) pa_nil))))))))))))
  (pss_hold (pss_one (ps_if (PW.pt (pw_or (pt_not (pt_q (pv 8))) (pw_or1 (pt_not (pt_q (pe_fnQ (ok__law_right T) HR (by decide) rfl (pa_q (pv 1) (pa_q (pv 2) (pa_q (pv 3) (pa_q (pv 4) pa_nil)))))))))) (pss_one (ps_ret pe_bl)) pss_nil)))))))))))
  (pss_hold (pss_cons (ps_if (pt_cmpR (op_eqXK K rfl HR.units) (pe_op op_mod (pe_fnQ (ok__law_cell_at T a ns) HR (by decide) rfl (pa_q (pv 0) (pa_q pe_int pa_nil))) pe_int) pe_int (nomark _)) (pss_one (ps_ret pe_bl)) pss_nil)
  (pss_hold (pss_one (ps_ret (pe_fnQ (ok__law_calm T) HR (by decide) rfl (pa_q (pv 1) (pa_q (pv 2) (pa_q (pv 3) (pa_q (pv 4) pa_nil))))))))))))))))))), ?_⟩
      generalize h_ua : tHold _ = ua
      walk_at "wps"
      intro x0 dx0 nx0 nd0 _ x1 dx1 nx1 nd1 _ ps nps
      have s1 := same_new (C := C_Shut) (fs := []) nx0 nd0
      have s2 := same_new (C := C_Shut) (fs := []) nx1 nd1
      have s3 := same_upd (o := .lst [.ref x0, .ref x1]) nps
      have hs3 : _ = some (HO.lst [V.ref x0, V.ref x1]) := upd_same (H := upd (upd (upd (upd H dx0 (HO.own x0)) x0 (HO.ins C_Shut dx0 [])) dx1 (HO.own x1)) x1 (HO.ins C_Shut dx1 [])) (a := ps) (o := .lst [.ref x0, .ref x1])
      have t0 : StAt (tbl C_Shut C_Calling C_Open C_Left C_Leaving C_Waiting C_Closing) _ x0 "shut" := ⟨C_Shut, dx0, s3 _ _ (s2 _ _ upd_same), .head _⟩
      have t1 : StAt (tbl C_Shut C_Calling C_Open C_Left C_Leaving C_Waiting C_Closing) _ x1 "shut" := ⟨C_Shut, dx1, s3 _ _ upd_same, .head _⟩
      have nps0 : H ps = none := none_of (s1.trans s2) nps
      have S3 := (s1.trans s2).trans s3
      generalize upd (upd (upd (upd (upd H dx0 (HO.own x0)) x0 (HO.ins C_Shut dx0 [])) dx1 (HO.own x1)) x1 (HO.ins C_Shut dx1 [])) ps (HO.lst [V.ref x0, V.ref x1]) = H3 at *
      have SA : Same H3 H3 := Same.refl _
      rw [← h_ua, tHold]
      generalize h_ub : tHold _ = ub
      walk_at "wps"
      have k1 := hs3
      intro q0 n_q0
      have e_q0 := upd_same (H := H3) (a := q0) (o := (.lst []))
      have s_q0 := same_upd (H := H3) (o := (.lst [])) n_q0
      replace hs3 := s_q0 _ _ hs3
      replace SA := SA.trans s_q0
      generalize upd H3 q0 ((.lst [])) = H4 at *
      have d1 : ps ≠ q0 := fun z => by rw [z, n_q0] at k1; cases k1
      replace k1 := hs3
      have k2 := e_q0
      have SA4 := SA
      intro q1 n_q1
      have e_q1 := upd_same (H := H4) (a := q1) (o := (.lst []))
      have s_q1 := same_upd (H := H4) (o := (.lst [])) n_q1
      replace hs3 := s_q1 _ _ hs3
      replace e_q0 := s_q1 _ _ e_q0
      replace SA := SA.trans s_q1
      generalize upd H4 q1 ((.lst [])) = H5 at *
      have d2 : ps ≠ q1 := fun z => by rw [z, n_q1] at k1; cases k1
      have d3 : q0 ≠ q1 := fun z => by rw [z, n_q1] at k2; cases k2
      replace k1 := hs3
      replace k2 := e_q0
      have k3 := e_q1
      intro pp n_pp
      have e_pp := upd_same (H := H5) (a := pp) (o := (.lst [.ref q0, .ref q1]))
      have s_pp := same_upd (H := H5) (o := (.lst [.ref q0, .ref q1])) n_pp
      replace hs3 := s_pp _ _ hs3
      replace e_q0 := s_pp _ _ e_q0
      replace e_q1 := s_pp _ _ e_q1
      replace SA := SA.trans s_pp
      generalize upd H5 pp ((.lst [.ref q0, .ref q1])) = H6 at *
      have d4 : ps ≠ pp := fun z => by rw [z, n_pp] at k1; cases k1
      have d5 : q0 ≠ pp := fun z => by rw [z, n_pp] at k2; cases k2
      have d6 : q1 ≠ pp := fun z => by rw [z, n_pp] at k3; cases k3
      rw [← h_ub, tHold]
      generalize h_uc : tHold _ = uc
      walk_at "wps"
      replace k1 := hs3
      replace k2 := e_q0
      replace k3 := e_q1
      have k4 := e_pp
      have SA6 := SA
      intro pt n_pt
      have e_pt := upd_same (H := H6) (a := pt) (o := (.lst [.int 0, .int 0]))
      have s_pt := same_upd (H := H6) (o := (.lst [.int 0, .int 0])) n_pt
      replace hs3 := s_pt _ _ hs3
      replace e_q0 := s_pt _ _ e_q0
      replace e_q1 := s_pt _ _ e_q1
      replace e_pp := s_pt _ _ e_pp
      replace SA := SA.trans s_pt
      generalize upd H6 pt ((.lst [.int 0, .int 0])) = H7 at *
      have d7 : ps ≠ pt := fun z => by rw [z, n_pt] at k1; cases k1
      have d8 : q0 ≠ pt := fun z => by rw [z, n_pt] at k2; cases k2
      have d9 : q1 ≠ pt := fun z => by rw [z, n_pt] at k3; cases k3
      have d10 : pp ≠ pt := fun z => by rw [z, n_pt] at k4; cases k4
      rw [← h_uc, tHold]
      generalize h_ud : tHold _ = ud
      walk_at "wps"
      replace k1 := hs3
      replace k2 := e_q0
      replace k3 := e_q1
      replace k4 := e_pp
      have k5 := e_pt
      have SA7 := SA
      intro pk n_pk
      have e_pk := upd_same (H := H7) (a := pk) (o := (.lst [.int 0, .int 0]))
      have s_pk := same_upd (H := H7) (o := (.lst [.int 0, .int 0])) n_pk
      replace hs3 := s_pk _ _ hs3
      replace e_q0 := s_pk _ _ e_q0
      replace e_q1 := s_pk _ _ e_q1
      replace e_pp := s_pk _ _ e_pp
      replace e_pt := s_pk _ _ e_pt
      replace SA := SA.trans s_pk
      generalize upd H7 pk ((.lst [.int 0, .int 0])) = H8 at *
      have d11 : ps ≠ pk := fun z => by rw [z, n_pk] at k1; cases k1
      have d12 : q0 ≠ pk := fun z => by rw [z, n_pk] at k2; cases k2
      have d13 : q1 ≠ pk := fun z => by rw [z, n_pk] at k3; cases k3
      have d14 : pp ≠ pk := fun z => by rw [z, n_pk] at k4; cases k4
      have d15 : pt ≠ pk := fun z => by rw [z, n_pk] at k5; cases k5
      have A8 : Ht (tbl C_Shut C_Calling C_Open C_Left C_Leaving C_Waiting C_Closing) H8 ps pp pt pk q0 q1 (fun k => if k = 0 then x0 else x1) (fun _ => 0) (fun _ => 0) (fun _ => 0) (fun _ => 0) (fun _ _ => 0) := by
        refine ⟨hs3, fun i hi => ?_, e_pp, fun i hi => ?_, e_pt, e_pk, ?_⟩
        · show StAt _ _ (if i = 0 then x0 else x1) _
          split
          · exact t0.same SA
          · exact t1.same SA
        · show PutT _ (if i = 0 then q0 else q1) _ _
          split
          · exact ⟨[], e_q0, rfl, fun j c e => by cases e⟩
          · exact ⟨[], e_q1, rfl, fun j c e => by cases e⟩
        · simp only [List.nodup_cons, List.mem_cons, List.not_mem_nil, or_false, not_or, List.nodup_nil, and_true, not_false_eq_true]
          exact ⟨⟨d4, d7, d11, d1, d2⟩, ⟨d10, d14, Ne.symm d5, Ne.symm d6⟩, ⟨d15, Ne.symm d8, Ne.symm d9⟩, ⟨Ne.symm d12, Ne.symm d13⟩, d3⟩
      have sc : ∀ H', FrJ ps pt pk q0 q1 H8 H' → SqL K H' a (ns.map V.int) := fun H' F => by
        exact sq_fr hS fun o e => F a o (SA _ _ (S3 _ _ e)) (ne_of_none e nps0) (ne_of_none (S3 _ _ e) (none_of SA6 n_pt)) (ne_of_none (S3 _ _ e) (none_of SA7 n_pk)) (ne_of_none (S3 _ _ e) n_q0) (ne_of_none (S3 _ _ e) (none_of SA4 n_q1))
      rw [← h_ud, tHold]
      generalize h_b1 : tHold _ = b1
      generalize h_ue : tHold _ = ue
      walk_at "wps"
      refine rSlA_list (sc H8 FrJ.refl) fun p0 np0 => ?_
      obtain ⟨cs, ecs, lcs⟩ := cut_163 (ns := ns)
      rw [ecs]
      have s9 := same_upd (H := H8) (o := .lst (cs.map V.int)) np0
      have h09 := upd_same (H := H8) (a := p0) (o := .lst (cs.map V.int))
      have A9 := A8.same s9
      have f1 : p0 ≠ ps := fun z => by rw [z, hs3] at np0; cases np0
      have f2 : p0 ≠ pt := fun z => by rw [z, e_pt] at np0; cases np0
      have f3 : p0 ≠ pk := fun z => by rw [z, e_pk] at np0; cases np0
      have f4 : p0 ≠ q0 := fun z => by rw [z, e_q0] at np0; cases np0
      have f5 : p0 ≠ q1 := fun z => by rw [z, e_q1] at np0; cases np0
      have F9 : FrJ ps pt pk q0 q1 H8 (upd H8 p0 (.lst (cs.map V.int))) := FrJ.refl.same s9
      generalize upd H8 p0 (.lst (cs.map V.int)) = H9 at *
      refine fo_list (xs := cs.map V.int) (SqL.of h09) (fun i σ H' => ∃ x n p T K h v5 v6 v7 v8 v9, FrJ ps pt pk q0 q1 H9 H' ∧ Ht (tbl C_Shut C_Calling C_Open C_Left C_Leaving C_Waiting C_Closing) H' ps pp pt pk q0 q1 x n p T K h ∧ Jn p K T n h ∧ (∀ k < 2, p k ≤ i) ∧ σ = [some (V.ref a), some (V.ref ps), some (V.ref pp), some (V.ref pt), some (V.ref pk), v5, v6, v7, v8, v9]) ⟨_, _, _, _, _, _, none, none, none, none, none, FrJ.refl, A9, Jn.start, (fun _ _ => Nat.le_refl _), rfl⟩ (fun i σ H' _ hp => ?_) (fun i c σ H1 hc hp => ?_) (fun σ H1 hp => ?_)
      · obtain ⟨_, _, _, _, _, _, _, _, _, _, _, F, _⟩ := hp
        exact SqL.of (F p0 _ h09 f1 f2 f3 f4 f5)
      rotate_left
      · obtain ⟨x, n, p, T', K', h, v5, v6, v7, v8, v9, F1, A1, J1, hb, rfl⟩ := hp
        rw [List.length_map] at hb
        show ue _ _ _
        rw [← h_ue, tHold]
        generalize h_uf : tHold _ = uf
        walk_at "wps"
        refine ⟨sc H1 (F9.trans F1), fun n0 => ?_⟩
        split
        · exact q _
        · rw [← h_uf, tHold]
          walk_at "wps"
          exact ⟨q0, q1, x, n, p, T', K', h, A1, J1, (fun k hk => by have := hb k hk; omega), fun H' => q _⟩
      · obtain ⟨x, n, p, T', K', h, v5, v6, v7, v8, v9, F1, A1, J1, hb, rfl⟩ := hp
        have i62 : i < 62 := by
          have := (List.getElem?_eq_some_iff.mp hc).1
          rw [List.length_map] at this
          omega
        obtain ⟨c, rfl, _⟩ := map_int_get hc
        obtain ⟨j, ej, hj⟩ : ∃ j : Nat, c / 6 % 2 = (j : Int) ∧ j < 2 := ⟨(c / 6 % 2).toNat, by omega, by omega⟩
        have j1 : 1 - j < 2 := by omega
        have bj := hb j hj
        have bo := hb (1 - j) j1
        walk_at "wps"
        rw [ej]
        rw [← h_b1, tHold]
        generalize h_b2 : tHold _ = b2
        walk_at "wps"
        rw [← h_b2, tHold]
        generalize h_b3 : tHold _ = b3
        walk_at "wps"
        refine gen_ends fun DD eDD => ?_
        rw [← h_b3, tHold]
        generalize h_b4 : tHold _ = b4
        have last : ∀ H2 x n p T K h v9, FrJ ps pt pk q0 q1 H9 H2 → Ht (tbl C_Shut C_Calling C_Open C_Left C_Leaving C_Waiting C_Closing) H2 ps pp pt pk q0 q1 x n p T K h → Jn p K T n h → (∀ k < 2, p k ≤ i + 1) → b4 DD [some (V.ref a), some (V.ref ps), some (V.ref pp), some (V.ref pt), some (V.ref pk), some (V.int c), some (V.int (j : Int)), some (V.int (c % 6)), some (V.bl true), v9] H2 := by
          intro H2 x n p T K h v9 F2 A2 J2 hb2
          rw [← h_b4, tHold]
          walk_at "wps"
          refine ⟨q0, q1, x, n, p, T, K, h, A2, J2, (fun k hk => by have := hb2 k hk; omega), fun H3 s3' => ?_⟩
          rw [eDD]
          exact ⟨x, n, p, T, K, h, _, _, _, _, _, F2.same s3', A2.same s3', J2, hb2, rfl⟩
        have two : ∀ p' : Nat → Nat, p' j ≤ i + 1 → p' (1 - j) ≤ i + 1 → ∀ k < 2, p' k ≤ i + 1 := fun p' h1 h2 k hk => by
          rcases (show k = j ∨ k = 1 - j by omega) with rfl | rfl
          · exact h1
          · exact h2
        walk_at "wps"
        by_cases w0 : c % 6 = 0
        · rw [if_pos w0]
          intro pl npl
          have s5 := same_upd (H := H1) (o := .lst [.str "begin", .str "end"]) npl
          refine ixA_list (SqL.of upd_same) (v := .str "begin") (by rw [w0]; exact atI_0) ?_
          exact ⟨j, pk, q0, q1, x, n, p, T', K', h, rfl, hj, A1.same s5, J1, by omega, .inl rfl, fun H2 x2 n2 p2 h2 F2 A2 J2 e1 e2 e3 => last H2 x2 n2 p2 T' K' h2 v9 ((F1.same s5).trans F2) A2 J2 (two p2 (by omega) (by omega))⟩
        rw [if_neg w0]
        by_cases w1 : c % 6 = 1
        · rw [if_pos w1]
          intro pl npl
          have s5 := same_upd (H := H1) (o := .lst [.str "begin", .str "end"]) npl
          refine ixA_list (SqL.of upd_same) (v := .str "end") (by rw [w1]; exact atI_1) ?_
          exact ⟨j, pk, q0, q1, x, n, p, T', K', h, rfl, hj, A1.same s5, J1, by omega, .inr rfl, fun H2 x2 n2 p2 h2 F2 A2 J2 e1 e2 e3 => last H2 x2 n2 p2 T' K' h2 v9 ((F1.same s5).trans F2) A2 J2 (two p2 (by omega) (by omega))⟩
        rw [if_neg w1]
        by_cases w5 : c % 6 < 5
        · rw [if_pos w5]
          exact ⟨j, q0, q1, x, n, p, T', K', h, rfl, hj, A1, J1, by omega, fun H2 x2 n2 p2 T2 K2 h2 F2 A2 J2 e1 e2 e3 e4 e5 e6 => last H2 x2 n2 p2 T2 K2 h2 v9 (F1.trans F2) A2 J2 (two p2 (by omega) (by omega))⟩
        rw [if_neg w5]
        have kt := J1.kt j hj
        rw [show (1 : Int) - (j : Int) = ((1 - j : Nat) : Int) by omega]
        refine ixA_list (SqL.of A1.ht) (v := .int (T' (1 - j) : Nat)) (at2 (g := fun k => V.int (T' k : Nat)) j1) ?_
        refine ixA_list (SqL.of A1.hk) (v := .int (K' j : Nat)) (at2 (g := fun k => V.int (K' k : Nat)) hj) ?_
        walk_at "wps"
        refine ⟨by omega, ?_⟩
        have m0 := Int.emod_nonneg (c / 12) (show ((T' (1 - j) : Nat) : Int) - ((K' j : Nat) : Int) + 1 ≠ 0 by omega)
        have m1 := Int.emod_lt_of_pos (c / 12) (show 0 < ((T' (1 - j) : Nat) : Int) - ((K' j : Nat) : Int) + 1 by omega)
        generalize c / 12 % (((T' (1 - j) : Nat) : Int) - ((K' j : Nat) : Int) + 1) = mo at *
        obtain ⟨mn, rfl⟩ : ∃ mn : Nat, mo = (mn : Int) := ⟨mo.toNat, by omega⟩
        refine ixA_list (SqL.of A1.ht) (v := .int (T' (1 - j) : Nat)) (at2 (g := fun k => V.int (T' k : Nat)) j1) ?_
        walk_at "wps"
        exact ⟨j, T' (1 - j) - mn, pt, q0, q1, x, n, p, T', K', h, rfl, hj, by omega, A1, J1, by omega, fun H2 x2 n2 K2 F2 A2 J2 e1 e2 => last H2 x2 n2 p T' K2 h _ (F1.trans F2) A2 J2 (two p (by omega) (by omega))⟩
    · exact h.elim
end
theorem fin {P : Program} {w : World} {K : PySem.W.Frag} {h : Heap} {mg : Str → Option Value} {fa : Addr} {C_RoadError C_NotNow C_State C_Shut C_Calling C_Open C_Left C_Leaving C_Waiting C_Closing : Addr} (KX : K.In h) (G : h.Ns mainGlobals mg) (hmg : mg "law" = some (.ref fa)) (T : Txt K mg C_RoadError C_NotNow C_State C_Shut C_Calling C_Open C_Left C_Leaving C_Waiting C_Closing) :
    ∃ fd : FuncData, (∀ (s : Shared) (u : Value), BindsTo s fd ⟨[u], []⟩ [("_law_script", u)]) ∧ ∀ base : Heap, K.In base → base.Ns mainGlobals mg → FnOk P w K mg base CX0 6 fa fd ["_law_script"] (spLaw K) :=
  law_fin hmg T.d_law bd_law fun base => ok_law T
end K62
open PySem PySem.W PyProof.Rows
set_option maxRecDepth 100000 in
set_option maxHeartbeats 0 in
theorem PySem.Challenge.cw_slowroad_k62_whole_talks_of_states_holds : PySem.Challenge.rw_slowroad_k62_whole_talks_of_states.Holds := by
  w_on; o_law
  refine holds_open (q := K62.hdView) (loose := []) (Xt := fun s => xlAt K62.hdView [] s && recOk (RowW.records (OpenRow.toRowW (OpenLaw.row PySem.Challenge.rw_slowroad_k62_whole_talks_of_states))) s) (XP := XL K62.hdView []) (Yf := Hook.obs (kHook K62.hdK K62.hdAdr K62.hd_he)) (Ya := Hook.val (kHook K62.hdK K62.hdAdr K62.hd_he)) (YP := Hook.says (kHook K62.hdK K62.hdAdr K62.hd_he)) (N := 6866) K62.hd_hl (Hook.of (kHook K62.hdK K62.hdAdr K62.hd_he)) (Hook.keeps (kHook K62.hdK K62.hdAdr K62.hd_he)) (fun s e => xl_of s (Bool.and_eq_true_iff.mp e).1) XL.keeps (by rfl) (by rfl) (by rfl) (fun s e => recFacts_of (Bool.and_eq_true_iff.mp e).2) (by rfl) (by first | assumption | decide +kernel) (by decide +kernel) ⟨rfl, rfl, rfl, rfl, rfl, by decide +kernel⟩ ?hw ?hc
  case hw => w_witness2
  k_fill
  refine L2.law_walk (l := PySem.Challenge.rw_slowroad_k62_whole_talks_of_states) (k := 6) (x := "_law_script") rfl rfl ⟨rfl, by decide, by decide⟩ (fun w h Y => PySem.W.kIn_of Y) ?F
  case F =>
    intro w mg fa h KX G hmg
    refine' K62.fin KX G hmg ?TT
    case TT =>
      refine' K62.Txt.mk ?xm_RoadError ?xm_NotNow ?x_NotNow ?g_NotNow ?kp_NotNow ?xf_NotNow_state ?xf_NotNow_wish ?qv_NotNow ?q_NotNow_RoadError ?m_NotNow_RoadError ?q_NotNow_NotNow ?m_NotNow_NotNow ?k_State ?k_Shut ?k_Calling ?k_Open ?k_Left ?k_Leaving ?k_Waiting ?k_Closing ?ni_Shut ?og_Shut ?qs_Shut ?di_Shut_wish_end ?di_Shut_may_put ?di_Shut_ended ?di_Shut_answered ?ni_Calling ?og_Calling ?qs_Calling ?di_Calling_wish_begin ?di_Calling_ended ?di_Calling_answered ?ni_Open ?og_Open ?qs_Open ?di_Open_wish_begin ?di_Open_begun ?di_Open_answered ?ni_Left ?og_Left ?qs_Left ?di_Left_wish_begin ?di_Left_begun ?di_Left_ended ?di_Left_answered ?ni_Leaving ?og_Leaving ?qs_Leaving ?di_Leaving_wish_begin ?di_Leaving_wish_end ?di_Leaving_may_put ?di_Leaving_begun ?ni_Waiting ?og_Waiting ?qs_Waiting ?di_Waiting_wish_begin ?di_Waiting_wish_end ?di_Waiting_may_put ?di_Waiting_begun ?di_Waiting_answered ?ni_Closing ?og_Closing ?qs_Closing ?di_Closing_wish_begin ?di_Closing_wish_end ?di_Closing_may_put ?di_Closing_begun ?di_Closing_ended ?d__wall ?d_NotNow___init__ ?d_State_name ?d_State_wish_begin ?d_State_wish_end ?d_State_may_put ?d_State_begun ?d_State_ended ?d_State_answered ?d_Shut_name ?d_Shut_wish_begin ?d_Shut_begun ?d_Calling_name ?d_Calling_wish_end ?d_Calling_may_put ?d_Calling_begun ?d_Open_name ?d_Open_wish_end ?d_Open_may_put ?d_Open_ended ?d_Left_name ?d_Left_wish_end ?d_Left_may_put ?d_Leaving_name ?d_Leaving_ended ?d_Leaving_answered ?d_Waiting_name ?d_Waiting_ended ?d_Closing_name ?d_Closing_answered ?d__law_cell_at ?d__law_table ?d__law_count ?d__law_name ?d__law_wish ?d__law_hear ?d__law_take ?d__law_right ?d__law_calm ?d_law ?b_ValueError ?b_len ?b_min ?b_range
      case xm_RoadError => refine' L2.xmat_mk KX G ?a ?t ?b; (case a => k_is); (case t => k_is); (case b => k_is)
      case xm_NotNow => refine' L2.xmat_mk KX G ?a ?t ?b; (case a => k_is); (case t => k_is); (case b => k_is)
      case x_NotNow => refine' ⟨_, L2.xcat_mk KX G ?a ?l ?o ?i ?t ?l2 ?o2 ?i2 ?t2⟩; (case a => k_is); (case l => k_is); (case o => kernel_rfl); (case i => k_is); (case t => k_is); (case l2 => k_is); (case o2 => kernel_rfl); (case i2 => k_is); (case t2 => k_is)
      case g_NotNow => refine' L2.xgat_mk ?a ?b ?c ?d ?e ?f ?g ?h; (case a => k_is); (case b => k_is); (case c => k_is); (case d => k_is); (case e => k_is); (case f => k_is); (case g => k_is); (case h => k_is)
      case kp_NotNow => k_is
      case xf_NotNow_state => refine' ⟨?a, ?b⟩; (case a => k_is); (case b => k_is)
      case xf_NotNow_wish => refine' ⟨?a, ?b⟩; (case a => k_is); (case b => k_is)
      case qv_NotNow => kit_is
      case q_NotNow_RoadError => kit_is
      case m_NotNow_RoadError => refine' (show PySem.W.mroIn _ _ _ = _ from ?a); (case a => k_is)
      case q_NotNow_NotNow => kit_is
      case m_NotNow_NotNow => refine' (show PySem.W.mroIn _ _ _ = _ from ?a); (case a => k_is)
      case k_State => refine' L2.klsat_mk KX G ?a ?pg ?hd ?po ?sa ?mk ?kc; (case a => k_is); (case pg => k_is); (case hd => k_is); (case po => k_is); (case sa => k_is); (case mk => k_is); (case kc => k_is)
      case k_Shut => refine' L2.klsat_mk KX G ?a ?pg ?hd ?po ?sa ?mk ?kc; (case a => k_is); (case pg => k_is); (case hd => k_is); (case po => k_is); (case sa => k_is); (case mk => k_is); (case kc => k_is)
      case k_Calling => refine' L2.klsat_mk KX G ?a ?pg ?hd ?po ?sa ?mk ?kc; (case a => k_is); (case pg => k_is); (case hd => k_is); (case po => k_is); (case sa => k_is); (case mk => k_is); (case kc => k_is)
      case k_Open => refine' L2.klsat_mk KX G ?a ?pg ?hd ?po ?sa ?mk ?kc; (case a => k_is); (case pg => k_is); (case hd => k_is); (case po => k_is); (case sa => k_is); (case mk => k_is); (case kc => k_is)
      case k_Left => refine' L2.klsat_mk KX G ?a ?pg ?hd ?po ?sa ?mk ?kc; (case a => k_is); (case pg => k_is); (case hd => k_is); (case po => k_is); (case sa => k_is); (case mk => k_is); (case kc => k_is)
      case k_Leaving => refine' L2.klsat_mk KX G ?a ?pg ?hd ?po ?sa ?mk ?kc; (case a => k_is); (case pg => k_is); (case hd => k_is); (case po => k_is); (case sa => k_is); (case mk => k_is); (case kc => k_is)
      case k_Waiting => refine' L2.klsat_mk KX G ?a ?pg ?hd ?po ?sa ?mk ?kc; (case a => k_is); (case pg => k_is); (case hd => k_is); (case po => k_is); (case sa => k_is); (case mk => k_is); (case kc => k_is)
      case k_Closing => refine' L2.klsat_mk KX G ?a ?pg ?hd ?po ?sa ?mk ?kc; (case a => k_is); (case pg => k_is); (case hd => k_is); (case po => k_is); (case sa => k_is); (case mk => k_is); (case kc => k_is)
      case ni_Shut => refine' L2.noini_mk ?a; (case a => k_is)
      case og_Shut => refine' L2.ogat_mk ?a ?b ?c ?d ?e ?f; (case a => k_is); (case b => k_is); (case c => k_is); (case d => k_is); (case e => k_is); (case f => k_is)
      case qs_Shut => kit_is
      case di_Shut_wish_end => refine' L2.methat_mk ?a ?i ?l ?c ?k; (case a => k_is); (case i => k_is); (case l => k_is); (case c => k_is); (case k => k_is)
      case di_Shut_may_put => refine' L2.methat_mk ?a ?i ?l ?c ?k; (case a => k_is); (case i => k_is); (case l => k_is); (case c => k_is); (case k => k_is)
      case di_Shut_ended => refine' L2.methat_mk ?a ?i ?l ?c ?k; (case a => k_is); (case i => k_is); (case l => k_is); (case c => k_is); (case k => k_is)
      case di_Shut_answered => refine' L2.methat_mk ?a ?i ?l ?c ?k; (case a => k_is); (case i => k_is); (case l => k_is); (case c => k_is); (case k => k_is)
      case ni_Calling => refine' L2.noini_mk ?a; (case a => k_is)
      case og_Calling => refine' L2.ogat_mk ?a ?b ?c ?d ?e ?f; (case a => k_is); (case b => k_is); (case c => k_is); (case d => k_is); (case e => k_is); (case f => k_is)
      case qs_Calling => kit_is
      case di_Calling_wish_begin => refine' L2.methat_mk ?a ?i ?l ?c ?k; (case a => k_is); (case i => k_is); (case l => k_is); (case c => k_is); (case k => k_is)
      case di_Calling_ended => refine' L2.methat_mk ?a ?i ?l ?c ?k; (case a => k_is); (case i => k_is); (case l => k_is); (case c => k_is); (case k => k_is)
      case di_Calling_answered => refine' L2.methat_mk ?a ?i ?l ?c ?k; (case a => k_is); (case i => k_is); (case l => k_is); (case c => k_is); (case k => k_is)
      case ni_Open => refine' L2.noini_mk ?a; (case a => k_is)
      case og_Open => refine' L2.ogat_mk ?a ?b ?c ?d ?e ?f; (case a => k_is); (case b => k_is); (case c => k_is); (case d => k_is); (case e => k_is); (case f => k_is)
      case qs_Open => kit_is
      case di_Open_wish_begin => refine' L2.methat_mk ?a ?i ?l ?c ?k; (case a => k_is); (case i => k_is); (case l => k_is); (case c => k_is); (case k => k_is)
      case di_Open_begun => refine' L2.methat_mk ?a ?i ?l ?c ?k; (case a => k_is); (case i => k_is); (case l => k_is); (case c => k_is); (case k => k_is)
      case di_Open_answered => refine' L2.methat_mk ?a ?i ?l ?c ?k; (case a => k_is); (case i => k_is); (case l => k_is); (case c => k_is); (case k => k_is)
      case ni_Left => refine' L2.noini_mk ?a; (case a => k_is)
      case og_Left => refine' L2.ogat_mk ?a ?b ?c ?d ?e ?f; (case a => k_is); (case b => k_is); (case c => k_is); (case d => k_is); (case e => k_is); (case f => k_is)
      case qs_Left => kit_is
      case di_Left_wish_begin => refine' L2.methat_mk ?a ?i ?l ?c ?k; (case a => k_is); (case i => k_is); (case l => k_is); (case c => k_is); (case k => k_is)
      case di_Left_begun => refine' L2.methat_mk ?a ?i ?l ?c ?k; (case a => k_is); (case i => k_is); (case l => k_is); (case c => k_is); (case k => k_is)
      case di_Left_ended => refine' L2.methat_mk ?a ?i ?l ?c ?k; (case a => k_is); (case i => k_is); (case l => k_is); (case c => k_is); (case k => k_is)
      case di_Left_answered => refine' L2.methat_mk ?a ?i ?l ?c ?k; (case a => k_is); (case i => k_is); (case l => k_is); (case c => k_is); (case k => k_is)
      case ni_Leaving => refine' L2.noini_mk ?a; (case a => k_is)
      case og_Leaving => refine' L2.ogat_mk ?a ?b ?c ?d ?e ?f; (case a => k_is); (case b => k_is); (case c => k_is); (case d => k_is); (case e => k_is); (case f => k_is)
      case qs_Leaving => kit_is
      case di_Leaving_wish_begin => refine' L2.methat_mk ?a ?i ?l ?c ?k; (case a => k_is); (case i => k_is); (case l => k_is); (case c => k_is); (case k => k_is)
      case di_Leaving_wish_end => refine' L2.methat_mk ?a ?i ?l ?c ?k; (case a => k_is); (case i => k_is); (case l => k_is); (case c => k_is); (case k => k_is)
      case di_Leaving_may_put => refine' L2.methat_mk ?a ?i ?l ?c ?k; (case a => k_is); (case i => k_is); (case l => k_is); (case c => k_is); (case k => k_is)
      case di_Leaving_begun => refine' L2.methat_mk ?a ?i ?l ?c ?k; (case a => k_is); (case i => k_is); (case l => k_is); (case c => k_is); (case k => k_is)
      case ni_Waiting => refine' L2.noini_mk ?a; (case a => k_is)
      case og_Waiting => refine' L2.ogat_mk ?a ?b ?c ?d ?e ?f; (case a => k_is); (case b => k_is); (case c => k_is); (case d => k_is); (case e => k_is); (case f => k_is)
      case qs_Waiting => kit_is
      case di_Waiting_wish_begin => refine' L2.methat_mk ?a ?i ?l ?c ?k; (case a => k_is); (case i => k_is); (case l => k_is); (case c => k_is); (case k => k_is)
      case di_Waiting_wish_end => refine' L2.methat_mk ?a ?i ?l ?c ?k; (case a => k_is); (case i => k_is); (case l => k_is); (case c => k_is); (case k => k_is)
      case di_Waiting_may_put => refine' L2.methat_mk ?a ?i ?l ?c ?k; (case a => k_is); (case i => k_is); (case l => k_is); (case c => k_is); (case k => k_is)
      case di_Waiting_begun => refine' L2.methat_mk ?a ?i ?l ?c ?k; (case a => k_is); (case i => k_is); (case l => k_is); (case c => k_is); (case k => k_is)
      case di_Waiting_answered => refine' L2.methat_mk ?a ?i ?l ?c ?k; (case a => k_is); (case i => k_is); (case l => k_is); (case c => k_is); (case k => k_is)
      case ni_Closing => refine' L2.noini_mk ?a; (case a => k_is)
      case og_Closing => refine' L2.ogat_mk ?a ?b ?c ?d ?e ?f; (case a => k_is); (case b => k_is); (case c => k_is); (case d => k_is); (case e => k_is); (case f => k_is)
      case qs_Closing => kit_is
      case di_Closing_wish_begin => refine' L2.methat_mk ?a ?i ?l ?c ?k; (case a => k_is); (case i => k_is); (case l => k_is); (case c => k_is); (case k => k_is)
      case di_Closing_wish_end => refine' L2.methat_mk ?a ?i ?l ?c ?k; (case a => k_is); (case i => k_is); (case l => k_is); (case c => k_is); (case k => k_is)
      case di_Closing_may_put => refine' L2.methat_mk ?a ?i ?l ?c ?k; (case a => k_is); (case i => k_is); (case l => k_is); (case c => k_is); (case k => k_is)
      case di_Closing_begun => refine' L2.methat_mk ?a ?i ?l ?c ?k; (case a => k_is); (case i => k_is); (case l => k_is); (case c => k_is); (case k => k_is)
      case di_Closing_ended => refine' L2.methat_mk ?a ?i ?l ?c ?k; (case a => k_is); (case i => k_is); (case l => k_is); (case c => k_is); (case k => k_is)
      case d__wall => refine' L2.defat_mk KX G ?a ?l ?c ?k; (case a => k_is); (case l => k_is); (case c => k_is); (case k => k_is)
      case d_NotNow___init__ => refine' L2.methat_mk ?a ?i ?l ?c ?k; (case a => k_is); (case i => k_is); (case l => k_is); (case c => k_is); (case k => k_is)
      case d_State_name => refine' L2.methat_mk ?a ?i ?l ?c ?k; (case a => k_is); (case i => k_is); (case l => k_is); (case c => k_is); (case k => k_is)
      case d_State_wish_begin => refine' L2.methat_mk ?a ?i ?l ?c ?k; (case a => k_is); (case i => k_is); (case l => k_is); (case c => k_is); (case k => k_is)
      case d_State_wish_end => refine' L2.methat_mk ?a ?i ?l ?c ?k; (case a => k_is); (case i => k_is); (case l => k_is); (case c => k_is); (case k => k_is)
      case d_State_may_put => refine' L2.methat_mk ?a ?i ?l ?c ?k; (case a => k_is); (case i => k_is); (case l => k_is); (case c => k_is); (case k => k_is)
      case d_State_begun => refine' L2.methat_mk ?a ?i ?l ?c ?k; (case a => k_is); (case i => k_is); (case l => k_is); (case c => k_is); (case k => k_is)
      case d_State_ended => refine' L2.methat_mk ?a ?i ?l ?c ?k; (case a => k_is); (case i => k_is); (case l => k_is); (case c => k_is); (case k => k_is)
      case d_State_answered => refine' L2.methat_mk ?a ?i ?l ?c ?k; (case a => k_is); (case i => k_is); (case l => k_is); (case c => k_is); (case k => k_is)
      case d_Shut_name => refine' L2.methat_mk ?a ?i ?l ?c ?k; (case a => k_is); (case i => k_is); (case l => k_is); (case c => k_is); (case k => k_is)
      case d_Shut_wish_begin => refine' L2.methat_mk ?a ?i ?l ?c ?k; (case a => k_is); (case i => k_is); (case l => k_is); (case c => k_is); (case k => k_is)
      case d_Shut_begun => refine' L2.methat_mk ?a ?i ?l ?c ?k; (case a => k_is); (case i => k_is); (case l => k_is); (case c => k_is); (case k => k_is)
      case d_Calling_name => refine' L2.methat_mk ?a ?i ?l ?c ?k; (case a => k_is); (case i => k_is); (case l => k_is); (case c => k_is); (case k => k_is)
      case d_Calling_wish_end => refine' L2.methat_mk ?a ?i ?l ?c ?k; (case a => k_is); (case i => k_is); (case l => k_is); (case c => k_is); (case k => k_is)
      case d_Calling_may_put => refine' L2.methat_mk ?a ?i ?l ?c ?k; (case a => k_is); (case i => k_is); (case l => k_is); (case c => k_is); (case k => k_is)
      case d_Calling_begun => refine' L2.methat_mk ?a ?i ?l ?c ?k; (case a => k_is); (case i => k_is); (case l => k_is); (case c => k_is); (case k => k_is)
      case d_Open_name => refine' L2.methat_mk ?a ?i ?l ?c ?k; (case a => k_is); (case i => k_is); (case l => k_is); (case c => k_is); (case k => k_is)
      case d_Open_wish_end => refine' L2.methat_mk ?a ?i ?l ?c ?k; (case a => k_is); (case i => k_is); (case l => k_is); (case c => k_is); (case k => k_is)
      case d_Open_may_put => refine' L2.methat_mk ?a ?i ?l ?c ?k; (case a => k_is); (case i => k_is); (case l => k_is); (case c => k_is); (case k => k_is)
      case d_Open_ended => refine' L2.methat_mk ?a ?i ?l ?c ?k; (case a => k_is); (case i => k_is); (case l => k_is); (case c => k_is); (case k => k_is)
      case d_Left_name => refine' L2.methat_mk ?a ?i ?l ?c ?k; (case a => k_is); (case i => k_is); (case l => k_is); (case c => k_is); (case k => k_is)
      case d_Left_wish_end => refine' L2.methat_mk ?a ?i ?l ?c ?k; (case a => k_is); (case i => k_is); (case l => k_is); (case c => k_is); (case k => k_is)
      case d_Left_may_put => refine' L2.methat_mk ?a ?i ?l ?c ?k; (case a => k_is); (case i => k_is); (case l => k_is); (case c => k_is); (case k => k_is)
      case d_Leaving_name => refine' L2.methat_mk ?a ?i ?l ?c ?k; (case a => k_is); (case i => k_is); (case l => k_is); (case c => k_is); (case k => k_is)
      case d_Leaving_ended => refine' L2.methat_mk ?a ?i ?l ?c ?k; (case a => k_is); (case i => k_is); (case l => k_is); (case c => k_is); (case k => k_is)
      case d_Leaving_answered => refine' L2.methat_mk ?a ?i ?l ?c ?k; (case a => k_is); (case i => k_is); (case l => k_is); (case c => k_is); (case k => k_is)
      case d_Waiting_name => refine' L2.methat_mk ?a ?i ?l ?c ?k; (case a => k_is); (case i => k_is); (case l => k_is); (case c => k_is); (case k => k_is)
      case d_Waiting_ended => refine' L2.methat_mk ?a ?i ?l ?c ?k; (case a => k_is); (case i => k_is); (case l => k_is); (case c => k_is); (case k => k_is)
      case d_Closing_name => refine' L2.methat_mk ?a ?i ?l ?c ?k; (case a => k_is); (case i => k_is); (case l => k_is); (case c => k_is); (case k => k_is)
      case d_Closing_answered => refine' L2.methat_mk ?a ?i ?l ?c ?k; (case a => k_is); (case i => k_is); (case l => k_is); (case c => k_is); (case k => k_is)
      case d__law_cell_at => refine' L2.defat_mk KX G ?a ?l ?c ?k; (case a => k_is); (case l => k_is); (case c => k_is); (case k => k_is)
      case d__law_table => refine' L2.defat_mk KX G ?a ?l ?c ?k; (case a => k_is); (case l => k_is); (case c => k_is); (case k => k_is)
      case d__law_count => refine' L2.defat_mk KX G ?a ?l ?c ?k; (case a => k_is); (case l => k_is); (case c => k_is); (case k => k_is)
      case d__law_name => refine' L2.defat_mk KX G ?a ?l ?c ?k; (case a => k_is); (case l => k_is); (case c => k_is); (case k => k_is)
      case d__law_wish => refine' L2.defat_mk KX G ?a ?l ?c ?k; (case a => k_is); (case l => k_is); (case c => k_is); (case k => k_is)
      case d__law_hear => refine' L2.defat_mk KX G ?a ?l ?c ?k; (case a => k_is); (case l => k_is); (case c => k_is); (case k => k_is)
      case d__law_take => refine' L2.defat_mk KX G ?a ?l ?c ?k; (case a => k_is); (case l => k_is); (case c => k_is); (case k => k_is)
      case d__law_right => refine' L2.defat_mk KX G ?a ?l ?c ?k; (case a => k_is); (case l => k_is); (case c => k_is); (case k => k_is)
      case d__law_calm => refine' L2.defat_mk KX G ?a ?l ?c ?k; (case a => k_is); (case l => k_is); (case c => k_is); (case k => k_is)
      case d_law => refine' L2.defat_mk KX G ?a ?l ?c ?k; (case a => k_is); (case l => k_is); (case c => k_is); (case k => k_is)
      case b_ValueError => refine' PySem.W.mg_none_of KX G ?a; (case a => k_is)
      case b_len => refine' PySem.W.mg_none_of KX G ?a; (case a => k_is)
      case b_min => refine' PySem.W.mg_none_of KX G ?a; (case a => k_is)
      case b_range => refine' PySem.W.mg_none_of KX G ?a; (case a => k_is)
#print axioms PySem.Challenge.cw_slowroad_k62_whole_talks_of_states_holds


