import PyProof.Rows.All
import Wide.All
import OpenK.AllK
import Wide.FinOn
import PyProof.EqAt
import PyProof.EqKinds
import PyProof.TupleCall
import PyProof.NeKinds
import PyProof.Rows.BitMore
import PyProof.FitsBits
import PyProof.Rows.TupAssign
import PyProof.ListRange
import PyProof.Rows.ZipGen
import PyProof.StationsW
import PyProof.ExcInit
import PyProof.ExcClass2
import PyProof.RulesTry
import PyProof.ExcBaseAll.ValueError
import PyProof.InstStoreFacts
import PyProof.RulesAs
import PyProof.RulesDel
import PyProof.ExcArgs
import KE.KUnpack
import PyProof.Draws
import PyProof.EnumMake
import KE.KMinBuiltin
import Lean
import PySem.Challenge.RW_slowroad_k72_reckoned
set_option Elab.async false
set_option linter.all false
set_option compiler.extract_closed false
-- CHANGE: your row's module here, as the last of these rows
set_option maxRecDepth 100000
namespace L2
open PySem PySem.Spec PyProof.Rows
noncomputable abbrev Key := Sum Int Str
noncomputable def keyIs : Key → Value → Bool
 | .inl k, v => Value.isInt k v
 | .inr x, v => Value.isStrOf x v
noncomputable def keyH (w : World) : Key → Int
 | .inl k => hashInt k
 | .inr x => hashStr w x
theorem keyIs_shape : ∀ {k : Key} {v : Value}, keyIs k v = true → (∃ i t, k = Sum.inl i ∧ v = Value.int i t) ∨ (∃ x t, k = Sum.inr x ∧ v = Value.str x t)
 | .inl i, v, h => by
  obtain ⟨t, e⟩ := Value.isInt_shape (k := i) (v := v) h
  exact .inl ⟨i, t, rfl, e⟩
 | .inr x, v, h => by
  obtain ⟨t, e⟩ := Value.isStrOf_shape (x := x) (v := v) h
  exact .inr ⟨x, t, rfl, e⟩
theorem key_ll (a b : Int) : decide ((Sum.inl a : Key) = Sum.inl b) = (a == b) := by
 by_cases e : a = b
 ·subst e; simp
 ·have h : ¬ (Sum.inl a : Key) = Sum.inl b := fun q => e (Sum.inl.inj q)
  rw [decide_eq_false h]
  exact (beq_eq_false_iff_ne.mpr e).symm
theorem key_rr (a b : Str) : decide ((Sum.inr a : Key) = Sum.inr b) = decide (a = b) := by
 by_cases e : a = b
 ·subst e; simp
 ·have h : ¬ (Sum.inr a : Key) = Sum.inr b := fun q => e (Sum.inr.inj q)
  rw [decide_eq_false h, decide_eq_false e]
theorem key_lr (a : Int) (b : Str) : decide ((Sum.inl a : Key) = Sum.inr b) = false := decide_eq_false (fun q => nomatch q)
theorem key_rl (a : Str) (b : Int) : decide ((Sum.inr a : Key) = Sum.inl b) = false := decide_eq_false (fun q => nomatch q)
noncomputable def mixKind (prog : Program) (w : World) : PySem.KeyKind prog w Key where
 is := keyIs
 hash := keyH w
 inj := fun v a b ha hb => by
  rcases keyIs_shape ha with ⟨i, t, rfl, rfl⟩ | ⟨x, t, rfl, rfl⟩
  ·rcases keyIs_shape hb with ⟨j, u, rfl, e⟩ | ⟨y, u, rfl, e⟩
   ·injection e with e1 _; rw [e1]
   ·exact nomatch e
  ·rcases keyIs_shape hb with ⟨j, u, rfl, e⟩ | ⟨y, u, rfl, e⟩
   ·exact nomatch e
   ·injection e with e1 _; rw [e1]
 byValue := fun k v h => by
  rcases keyIs_shape h with ⟨i, t, rfl, rfl⟩ | ⟨x, t, rfl, rfl⟩ <;> rfl
 pyHash := fun hv h => by
  rcases keyIs_shape hv with ⟨i, t, rfl, rfl⟩ | ⟨x, t, rfl, rfl⟩
  ·exact wpAny_pyHash_int h
  ·exact wpAny_pyHash_str h
 eqBool := fun hu hv h => by
  rcases keyIs_shape hu with ⟨i, t, rfl, rfl⟩ | ⟨x, t, rfl, rfl⟩
  ·rcases keyIs_shape hv with ⟨j, u, rfl, rfl⟩ | ⟨y, u, rfl, rfl⟩
   ·rw [key_ll] at h; exact wpAny_eqBool_int h
   ·rw [key_lr] at h; exact SeqAt.EqAt.int_str i t y u _ _ _ _ h
  ·rcases keyIs_shape hv with ⟨j, u, rfl, rfl⟩ | ⟨y, u, rfl, rfl⟩
   ·rw [key_rl] at h; exact SeqAt.EqAt.str_int x t j u _ _ _ _ h
   ·rw [key_rr] at h; exact wpAny_eqBool_str h
 «strs» := fun k x t v h => by
  rcases keyIs_shape h with ⟨i, u, rfl, e⟩ | ⟨y, u, rfl, e⟩
  ·exact nomatch e
  ·injection e with e1 _
   subst e1
   cases v <;> rfl
end L2
namespace L2
open PySem PySem.Spec PyProof.Rows
inductive V where
 | non | bl (b : Bool) | int (i : Int) | str (x : Str) | byt (b : Array UInt8) | flt (b : UInt64) | ref (a : Addr) | ty (n : String)
 deriving DecidableEq
noncomputable def RelV : V → Value → Prop
 | .non, u => u = Value.none
 | .bl b, u => u = Value.bool b
 | .int i, u => ∃ t, u = Value.int i t
 | .str x, u => ∃ t, u = Value.str x t
 | .byt b, u => ∃ t, u = Value.bytes b t
 | .flt b, u => ∃ t, u = Value.float b t
 | .ref a, u => u = Value.ref a
 | .ty n, u => u = Value.type n
noncomputable abbrev Vals : List V → List Value → Prop := Paired RelV
theorem Vals.length {xs : List V} {us : List Value} (r : Vals xs us) : xs.length = us.length := Paired.length r
theorem Vals.get : ∀ {xs : List V} {us : List Value} {i : Nat} {x : V}, Vals xs us → xs[i]? = some x → ∃ u, us[i]? = some u ∧ RelV x u
 | _, _, _, _, .nil, e => by simp at e
 | _, _, 0, _, .cons r _, e => by simp at e; subst e; exact ⟨_, rfl, r⟩
 | _, _, i + 1, x, .cons _ t, e => by
  obtain ⟨u, h1, h2⟩ := Vals.get (i := i) (x := x) t (by simpa using e)
  exact ⟨u, by simpa using h1, h2⟩
theorem Vals.append : ∀ {xs ys : List V} {us ws : List Value}, Vals xs us → Vals ys ws → Vals (xs ++ ys) (us ++ ws)
 | _, _, _, _, .nil, s => s
 | _, _, _, _, .cons r t, s => .cons r (Vals.append t s)
theorem Vals.take : ∀ {xs : List V} {us : List Value} (n : Nat), Vals xs us → Vals (xs.take n) (us.take n)
 | _, _, 0, _ => .nil
 | _, _, _ + 1, .nil => .nil
 | _, _, n + 1, .cons r t => .cons r (Vals.take n t)
theorem Vals.drop : ∀ {xs : List V} {us : List Value} (n : Nat), Vals xs us → Vals (xs.drop n) (us.drop n)
 | _, _, 0, r => r
 | _, _, _ + 1, .nil => .nil
 | _, _, n + 1, .cons _ t => Vals.drop n t
noncomputable def RelO : Option V → Option Value → Prop
 | some v, some u => RelV v u
 | none, none => True
 | _, _ => False
noncomputable def KV {κ : Type} : List (κ × V) → List (κ × Value) → Prop := Paired fun (p : κ × V) (q : κ × Value) => p.1 = q.1 ∧ RelV p.2 q.2
noncomputable def kV : Key → V
 | .inl i => .int i
 | .inr x => .str x
inductive HO where
 /-- a list -/
 | lst (xs : List V)
 /-- a tuple (never changes) -/
 | tup (xs : List V)
 /-- a dict whose keys are ints and texts; one whose keys are tuples of ints and texts (the empty one is both) -/
 | dK (kvs : List (Key × V)) | dT (kvs : List (List Key × V))
 /-- a set of ints: its members, its size -/
 | set (S : Int → Bool) (n : Nat)
 /-- an instance of the class at C, its dict at dx, its attributes -/
 | ins (C dx : Addr) (fs : List (Str × V))
 /-- the dict of the instance at x -/
 | own (x : Addr)
 /-- the dict of an exception -/
 | xd (fs : List (Str × V))
 /-- a bound method, f of x -/
 | met (f x : Addr)
 /-- a range object lo, lo + 1, .. below hi -/
 | rng (lo hi : Int)
 /-- a thing that is known to the object (the script; a dict while a loop walks it): read, never written while it is so -/
 | frz (o : Obj) (u : HO)
 /-- a code object's table -/
 | tbl (ps : Array Value)
 /-- any other thing, by what is true of its one object (a def of one's own: SetO a S n := HO.ext fun h => ..) -/
 | ext (φ : Heap → Prop)
noncomputable abbrev Hp := Addr → Option HO
noncomputable def upd (H : Hp) (a : Addr) (o : HO) : Hp := fun b => if b = a then some o else H b
theorem upd_same {H : Hp} {a : Addr} {o : HO} : upd H a o a = some o := by unfold upd; rw [if_pos rfl]
theorem upd_ne {H : Hp} {a b : Addr} {o : HO} (h : b ≠ a) : upd H a o b = H b := by unfold upd; rw [if_neg h]
theorem upd_upd {H : Hp} {a : Addr} {o u : HO} : upd (upd H a o) a u = upd H a u := by
 funext b; unfold upd; split <;> rfl
theorem ne_of {H : Hp} {a b : Addr} {o u : HO} (h : H a = some o) (h' : H b = some u) (d : o ≠ u) : a ≠ b := by
 intro e; subst e; rw [h] at h'; exact d (Option.some.inj h')
theorem ne_of_none {H : Hp} {a b : Addr} {o : HO} (h : H a = some o) (h' : H b = none) : a ≠ b := by
 intro e; subst e; rw [h] at h'; cases h'
section
variable (P : Program) (w : World)
noncomputable def ObjOk (H : Hp) (h : Heap) (a : Addr) : HO → Prop
 | .lst xs => xs.length ≤ sizeLine ∧ ∃ (its : List Value) (n : Nat), Vals xs its ∧ h.get? a = some { cls := .type "list", data := .seq its.toArray n }
 | .tup xs => xs.length ≤ sizeLine ∧ ∃ its : List Value, Vals xs its ∧ IsTup h a its.toArray
 | .dK kvs => kvs.length ≤ sizeLine ∧ (a == sysModules) = false ∧ ∃ vs, KV kvs vs ∧ h.DictOf (mixKind P w) a vs
 | .dT kvs => kvs.length ≤ sizeLine ∧ (a == sysModules) = false ∧ ∃ xs : List (List Key × Addr × Value),
   Paired (fun (p : List Key × V) (q : List Key × Addr × Value) => p.1 = q.1 ∧ H q.2.1 = some (.tup (p.1.map kV)) ∧ RelV p.2 q.2.2) kvs xs ∧
   ∃ o es ep, h.get? a = some o ∧ o.ExactDict ∧ o.data = .dict es ep ∧ es.toList = xs.map (entryOfKey (tupleKind (mixKind P w))) ∧ (xs.map (·.1)).Nodup
 | .set S n => h.SetOf (intKind P w) a S n
 | .ins C dx fs => H dx = some (.own a) ∧ fs.length ≤ 1000 ∧ dx ≠ a ∧ h.get? a = some (PySem.W.instObj C dx) ∧
   ∃ mA, h.Ns1 dx mA ∧ (∀ f, RelO (fs.lookup f) (mA f)) ∧ PySem.Within mA (fs.map (·.1))
 | .own _ => ∃ o, h.get? a = some o
 | .xd fs => ∃ mA, h.Ns1 a mA ∧ ∀ f, RelO (fs.lookup f) (mA f)
 | .rng lo hi => ∃ t u v, h.get? a = some { cls := .type "range", data := .fields #[.int lo t, .int hi u, .int 1 v] }
 | .frz o u => h.get? a = some o ∧ ObjOk H h a u
 | .tbl ps => h.get? a = some { cls := .none, data := .fields ps }
 | .met f x => h.get? a = some (PySem.W.methodObj (.ref f) (.ref x))
 | .ext φ => φ h ∧ (∃ o, h.get? a = some o) ∧ ∀ h1 h2 : Heap, φ h1 → (∀ o, h1.get? a = some o → h2.get? a = some o) → φ h2
noncomputable def HOk (H : Hp) (h : Heap) : Prop := ∀ a o, H a = some o → ObjOk P w H h a o
end
section
variable {P : Program} {w : World} {H H' : Hp} {h h' : Heap} {a : Addr} {o : HO}
theorem ObjOk.lt (x : ObjOk P w H h a o) : a < h.objs.size := by
 cases o with
 | lst xs => obtain ⟨_, _, _, _, e⟩ := x; exact Heap.lt_size e
 | tup xs => obtain ⟨_, _, _, p⟩ := x; exact p.lt
 | dK kvs => obtain ⟨_, _, _, _, o, _, _, e, _⟩ := x; exact Heap.lt_size e
 | dT kvs => obtain ⟨_, _, _, _, o, _, _, e, _⟩ := x; exact Heap.lt_size e
 | set S n => obtain ⟨o, _, _, _, e, _⟩ := x; exact Heap.lt_size e
 | ins C dx fs => obtain ⟨_, _, _, e, _⟩ := x; exact Heap.lt_size e
 | own y => obtain ⟨_, e⟩ := x; exact Heap.lt_size e
 | xd fs => obtain ⟨_, ⟨_, _, _, e, _⟩, _⟩ := x; exact Heap.lt_size e
 | rng lo hi => obtain ⟨_, _, _, e⟩ := x; exact Heap.lt_size e
 | frz ob u => obtain ⟨e, _⟩ := x; exact Heap.lt_size e
 | tbl ps => exact Heap.lt_size (show h.get? a = some _ from x)
 | met f y => exact Heap.lt_size (show h.get? a = some _ from x)
 | ext φ => obtain ⟨_, ⟨_, e⟩, _⟩ := x; exact Heap.lt_size e
theorem Paired.mapP {α β : Type} {F G : α → β → Prop} : ∀ {l₁ : List α} {l₂ : List β}, Paired F l₁ l₂ → (∀ a b, F a b → G a b) → Paired G l₁ l₂
 | _, _, .nil, _ => .nil
 | _, _, .cons r t, f => .cons (f _ _ r) (Paired.mapP t f)
theorem ObjOk.stay (x : ObjOk P w H h a o) (k : ∀ b u, (b = a ∨ H b = some (.own a)) → h.get? b = some u → h'.get? b = some u)
  (ho : ∀ b, H b = some (.own a) → H' b = some (.own a)) (ht : ∀ b xs, H b = some (.tup xs) → H' b = some (.tup xs)) : ObjOk P w H' h' a o := by
 induction o with
 | lst xs => obtain ⟨z, its, n, r, e⟩ := x; exact ⟨z, its, n, r, k _ _ (.inl rfl) e⟩
 | tup xs => obtain ⟨z, its, r, ob, e, c⟩ := x; exact ⟨z, its, r, ob, k _ _ (.inl rfl) e, c⟩
 | dK kvs => obtain ⟨z, y, vs, r, ob, es, ep, e, c⟩ := x; exact ⟨z, y, vs, r, ob, es, ep, k _ _ (.inl rfl) e, c⟩
 | dT kvs =>
  obtain ⟨z, y, xs, r, ob, es, ep, e, c⟩ := x
  exact ⟨z, y, xs, Paired.mapP r fun p q z => ⟨z.1, ht _ _ z.2.1, z.2.2⟩, ob, es, ep, k _ _ (.inl rfl) e, c⟩
 | set S n => obtain ⟨ob, es, ep, t, e, c⟩ := x; exact ⟨ob, es, ep, t, k _ _ (.inl rfl) e, c⟩
 | ins C dx fs =>
  obtain ⟨d, z, ne, e, mA, ⟨od, es, ep, e2, c⟩, r⟩ := x
  exact ⟨ho _ d, z, ne, k _ _ (.inl rfl) e, mA, ⟨od, es, ep, k _ _ (.inr d) e2, c⟩, r⟩
 | own y => obtain ⟨ob, e⟩ := x; exact ⟨ob, k _ _ (.inl rfl) e⟩
 | xd fs => obtain ⟨mA, ⟨od, es, ep, e, c⟩, r⟩ := x; exact ⟨mA, ⟨od, es, ep, k _ _ (.inl rfl) e, c⟩, r⟩
 | rng lo hi => obtain ⟨t, u, v, e⟩ := x; exact ⟨t, u, v, k _ _ (.inl rfl) e⟩
 | frz ob u ih => obtain ⟨e, q⟩ := x; exact ⟨k _ _ (.inl rfl) e, ih q⟩
 | tbl ps =>
  have e : h.get? a = some { cls := .none, data := .fields ps } := x
  show h'.get? a = some { cls := .none, data := .fields ps }
  exact k a _ (.inl rfl) e
 | met f y =>
  have e : h.get? a = some (PySem.W.methodObj (.ref f) (.ref y)) := x
  show h'.get? a = some (PySem.W.methodObj (.ref f) (.ref y))
  exact k a _ (.inl rfl) e
 | ext φ => obtain ⟨p, ⟨o, e⟩, st⟩ := x; exact ⟨st _ _ p fun o q => k _ _ (.inl rfl) q, ⟨o, k _ _ (.inl rfl) e⟩, st⟩
theorem HOk.lt (x : HOk P w H h) (e : H a = some o) : a < h.objs.size := (x a o e).lt
theorem HOk.fresh (x : HOk P w H h) (e : h.objs.size ≤ a) : H a = none := by
 cases q : H a with
 | none => rfl
 | some u => exact absurd (Nat.lt_of_lt_of_le (x.lt q) e) (Nat.lt_irrefl _)
theorem HOk.kept (x : HOk P w H h) (k : ∀ b u, h.get? b = some u → h'.get? b = some u) : HOk P w H h' := fun a o e =>
 (x a o e).stay (fun b u _ q => k b u q) (fun _ q => q) fun _ _ q => q
theorem HOk.laid (x : HOk P w H h) (k : ∀ b u, h.get? b = some u → h'.get? b = some u) (hp : h.objs.size ≤ a) (new : ObjOk P w (upd H a o) h' a o) : HOk P w (upd H a o) h' := fun b u e => by
 have hn := x.fresh hp
 by_cases hb : b = a
 ·subst hb; rw [upd_same] at e; cases e; exact new
 ·rw [upd_ne hb] at e
  exact (x b u e).stay (fun c v _ q => k c v q) (fun c q => by rw [upd_ne (ne_of_none q hn)]; exact q) fun c xs q => by rw [upd_ne (ne_of_none q hn)]; exact q
end
noncomputable def Rd (H : Hp) (a : Addr) (u : HO) : Prop := H a = some u ∨ ∃ o, H a = some (.frz o u)
theorem Rd.ok {P : Program} {w : World} {H : Hp} {h : Heap} {a : Addr} {u : HO} (r : Rd H a u) (x : HOk P w H h) : ObjOk P w H h a u := by
 rcases r with r | ⟨o, r⟩
 ·exact x a u r
 ·obtain ⟨_, q⟩ := x a _ r
  exact q
noncomputable def Mut : Option HO → Prop
 | some (.lst _) => True
 | some (.dK _) => True
 | some (.dT _) => True
 | some (.set _ _) => True
 | some (.ins _ _ _) => True
 | some (.ext _) => True
 | _ => False
section
variable {P : Program} {w : World} {H : Hp} {h h' : Heap} {x e : Addr} {o' : HO}
theorem HOk.write (ok : HOk P w H h) (mu : Mut (H x)) (he : e = x ∨ H e = some (.own x)) (k : ∀ b u, b ≠ e → h.get? b = some u → h'.get? b = some u) (heo : ∃ u, h'.get? e = some u)
  (new : ObjOk P w (upd H x o') h' x o') : HOk P w (upd H x o') h' := fun b u q => by
 have nown : ∀ c y, H c = some (.own y) → c ≠ x := fun c y r z => by subst z; rw [r] at mu; exact mu
 have ntup : ∀ c xs, H c = some (.tup xs) → c ≠ x := fun c xs r z => by subst z; rw [r] at mu; exact mu
 by_cases hb : b = x
 ·subst hb; rw [upd_same] at q; cases q; exact new
 ·rw [upd_ne hb] at q
  by_cases hbe : b = e
  ·have q' : H b = some (.own x) := by
    rcases he with z | z
    ·exact absurd (hbe.trans z) hb
    ·rw [hbe]; exact z
   rw [q] at q'; cases q'
   obtain ⟨v, hv⟩ := heo
   exact ⟨v, by rw [hbe]; exact hv⟩
  ·refine (ok b u q).stay (fun c v hc r => k c v ?_ r) (fun c r => by rw [upd_ne (nown c b r)]; exact r) fun c xs r => by rw [upd_ne (ntup c xs r)]; exact r
   rcases hc with rfl | hc
   ·exact hbe
   ·rintro rfl
    rcases he with z | z
    ·exact nown c b hc z
    ·rw [hc] at z; cases z; exact hb rfl
end
structure Un (fs ex : List Addr) (H H' : Hp) (h h' : Heap) : Prop where
 keep : ∀ b o, h.get? b = some o → H b = none → b ∉ fs → b ∉ ex → h'.get? b = some o
 slot : ∀ b o, h.get? b = some o → H b = none → b ∈ fs → b ∉ ex → ∃ sl, h'.get? b = some { o with slots := sl }
 free : ∀ b o, h.get? b = some o → H b = none → b ∉ ex → H' b = none
 there : ∀ b o, h.get? b = some o → b ∉ ex → ∃ o', h'.get? b = some o'
 tups : ∀ b xs, H b = some (.tup xs) → H' b = some (.tup xs)
 frzs : ∀ b o u, H b = some (.frz o u) → H' b = some (.frz o u)
 tbls : ∀ b ps, H b = some (.tbl ps) → ∃ more, H' b = some (.tbl (ps ++ more))
section
variable {fs fs' ex ex' : List Addr} {H H1 H2 : Hp} {h h1 h2 h' : Heap} {a x e : Addr} {o : HO}
theorem Un.any (u : Un fs ex H H1 h h1) {b : Addr} {ob : Obj} (q : h.get? b = some ob) (n : H b = none) (hx : b ∉ ex) : ∃ sl, h1.get? b = some { ob with slots := sl } := by
 by_cases hb : b ∈ fs
 ·exact u.slot b ob q n hb hx
 ·exact ⟨ob.slots, u.keep b ob q n hb hx⟩
theorem Un.kept (k : ∀ b u, h.get? b = some u → h'.get? b = some u) : Un fs ex H H h h' :=
 ⟨fun b ob q _ _ _ => k b ob q, fun b ob q _ _ _ => ⟨ob.slots, k b ob q⟩, fun _ _ _ n _ => n, fun b ob q _ => ⟨ob, k b ob q⟩, fun _ _ q => q, fun _ _ _ q => q, fun _ ps q => ⟨#[], by rw [q]; simp⟩⟩
theorem Un.refl : Un fs ex H H h h := Un.kept fun _ _ q => q
theorem Un.laid (k : ∀ b u, h.get? b = some u → h'.get? b = some u) (hp : h.objs.size ≤ a) (hn : H a = none) : Un fs ex H (upd H a o) h h' where
 keep := fun b u q _ _ _ => k b u q
 slot := fun b u q _ _ _ => ⟨u.slots, k b u q⟩
 free := fun b u q n _ => by rw [upd_ne (Nat.ne_of_lt (Nat.lt_of_lt_of_le (Heap.lt_size q) hp))]; exact n
 there := fun b u q _ => ⟨u, k b u q⟩
 tups := fun b xs q => by rw [upd_ne (ne_of_none q hn)]; exact q
 frzs := fun b u xs q => by rw [upd_ne (ne_of_none q hn)]; exact q
 tbls := fun b ps q => ⟨#[], by rw [upd_ne (ne_of_none q hn), q]; simp⟩
theorem Un.write (mu : Mut (H x)) (he : e = x ∨ H e = some (.own x)) (k : ∀ b u, b ≠ e → h.get? b = some u → h'.get? b = some u) (heo : ∃ u, h'.get? e = some u) : Un fs ex H (upd H x o) h h' := by
 have hx : ∀ b, H b = none → b ≠ x := fun b n z => by subst z; rw [n] at mu; exact mu
 have hb : ∀ b, H b = none → b ≠ e := fun b n z => by
  subst z
  rcases he with r | r
  ·exact hx b n r
  ·rw [n] at r; cases r
 have hm : ∀ b u, H b = some u → ¬ Mut (some u) → b ≠ x := fun b u q nm z => by subst z; rw [q] at mu; exact nm mu
 refine ⟨fun b u q n _ _ => k b u (hb b n) q, fun b u q n _ _ => ⟨u.slots, k b u (hb b n) q⟩, fun b u q n _ => by rw [upd_ne (hx b n)]; exact n, fun b u q _ => ?_,
  fun b xs q => by rw [upd_ne (hm b _ q fun z => z)]; exact q, fun b u xs q => by rw [upd_ne (hm b _ q fun z => z)]; exact q, fun b ps q => ⟨#[], by rw [upd_ne (hm b _ q fun z => z), q]; simp⟩⟩
 by_cases hbe : b = e
 ·subst hbe; exact heo
 ·exact ⟨u, k b u hbe q⟩
end
noncomputable def trk (h : Heap) (H : Hp) : List Addr := (List.range h.objs.size).filter fun a => (H a).isSome
noncomputable def hidT (h : Heap) (H : Hp) : Heap := PySem.W.hideAll h (trk h H)
theorem hidT_size (h : Heap) (H : Hp) : (hidT h H).objs.size = h.objs.size := PySem.W.hideAll_size _ _
theorem hidT_get {h : Heap} {H : Hp} {b : Addr} {o : Obj} (e : h.get? b = some o) (n : H b = none) : (hidT h H).get? b = some o :=
 PySem.W.hideAll_get _ e fun hm => by
  have q : (H b).isSome = true := (List.mem_filter.mp hm).2
  rw [n] at q; simp at q
theorem of_hidT {h : Heap} {H : Hp} {b : Addr} {o : Obj} (e : (hidT h H).get? b = some o) : h.get? b = some o ∧ H b = none := by
 have e' : h.get? b = some o := PySem.W.of_hideAll (trk h H) e
 refine ⟨e', ?_⟩
 cases q : H b with
 | none => rfl
 | some x =>
  have hm : b ∈ trk h H := List.mem_filter.mpr ⟨List.mem_range.mpr (Heap.lt_size e'), by simp [q]⟩
  have z : (hidT h H).get? b = none := PySem.W.hideAll_none (trk h H) hm
  rw [z] at e; cases e
end L2
namespace L2
open PySem PySem.Spec PyProof.Rows
structure Mod (K : PySem.W.Frag) (mg : Str → Option Value) (base : Heap) : Prop where
 kin : K.In base
 glob : base.Ns mainGlobals mg
 blt : ∃ mb, base.Ns builtinsNs mb ∧ ∀ x : Str, x ≠ "__name__" → mb x = bootBuiltins x
 nolimit : base.NoLimit
structure Cx where
 prog : Program
 w : World
 K : PySem.W.Frag
 mg : Str → Option Value
 base : Heap
 A : Around
 N : List Str
 s₀ : Shared
 H₀ : Hp
 env : Env
 outer : List Env
 stack : List Env
 ex : List Addr
 fn : Str → Bool
 calm : Bool
 pn : List (Addr × Obj)
 xe : Value → Shared → Prop
noncomputable def frs (l : List Env) : List Addr := l.filterMap (·.frame)
noncomputable abbrev Cx.fs (X : Cx) : List Addr := frs X.outer
noncomputable def Vis (sc : Scope) (x : Str) : Prop := sc.names.lookup x = some .local ∨ sc.names.lookup x = some .cell ∨ sc.names.lookup x = some .free
noncomputable def Loc (sc : Scope) (x : Str) : Prop := sc.names.lookup x = some .local ∨ sc.names.lookup x = some .cell
noncomputable def Look (env : Env) (h : Heap) (m : Str → Option Value) (x : Str) (u : Value) : Prop :=
 (env.kindOf x = some .local ∧ m x = some u) ∨ ((env.kindOf x = some .cell ∨ env.kindOf x = some .free) ∧ ∃ c, env.cells.lookup x = some c ∧ h.IsCell c (some u))
structure Cx.Ok (X : Cx) : Prop where
 mod : Mod X.K X.mg X.base
 kind : X.env.scope.kind = .function
 glob : X.env.globals = mainGlobals
 blt : X.env.builtins = builtinsNs
 above : X.s₀.heap.objs.size ≤ X.env.locals
 inj : ∀ x y c, X.env.cells.lookup x = some c → X.env.cells.lookup y = some c → x = y
 has : ∀ x, (X.env.kindOf x = some .cell ∨ X.env.kindOf x = some .free) → ∃ c, X.env.cells.lookup x = some c
 cab : ∀ x c, X.fn x = true → X.env.cells.lookup x = some c → X.s₀.heap.objs.size ≤ c
 hd : X.calm = true → X.A.handled = none
 frames : X.A.frames = some X.stack
 stk : X.stack = X.outer ∨ (X.stack = X.env :: X.outer ∧ X.env.frame = some X.env.locals)
 exf : ∀ b ∈ X.ex, b ≠ X.env.locals ∧ ∀ x c, X.env.cells.lookup x = some c → c ≠ b
 bs : ∀ b o, X.base.get? b = some o → X.s₀.heap.get? b = some o ∧ X.H₀ b = none
 bsz : X.base.objs.size ≤ X.s₀.heap.objs.size
 noex : ∀ b o, X.base.get? b = some o → b ∉ X.ex
 exfs : ∀ b ∈ X.ex, b ∉ X.fs
 funs : X.s₀.heap.FunFrames X.base X.outer
 frf : ∀ b ∈ X.fs, X.H₀ b = none
structure Inv (X : Cx) (pins : List (Addr × Obj)) (σ : List (Option V)) (H : Hp) (s : Shared) : Prop where
 ok : X.Ok
 os : s.os = X.s₀.os
 bare : AllBare s.gens
 base : Un X.fs X.ex X.H₀ H X.s₀.heap s.heap
 loc : ∃ m, s.heap.Ns X.env.locals m ∧ ∀ (i : Nat) (x : Str) (v : V), X.N[i]? = some x → σ[i]? = some (some v) → Vis X.env.scope x → ∃ u, RelV v u ∧ Look X.env s.heap m x u
 cell : ∀ x c, X.env.cells.lookup x = some c → ∃ v, s.heap.IsCell c v
 free : H X.env.locals = none
 freeC : ∀ x c, X.env.cells.lookup x = some c → H c = none
 pin : ∀ p ∈ X.pn ++ pins, s.heap.get? p.1 = some p.2 ∧ H p.1 = none ∧ p.1 ≠ X.env.locals ∧ p.1 ∉ X.fs ∧ ∀ v, p.2.data ≠ .cell v
 hok : HOk X.prog X.w H s.heap
 len : σ.length = X.N.length
section
variable {X : Cx} {pins : List (Addr × Obj)} {σ : List (Option V)} {H H' : Hp} {s : Shared} {h' : Heap}
theorem Cx.Ok.nofr (ok : X.Ok) {b : Addr} {o : Obj} (e : X.base.get? b = some o) : b ∉ X.fs := fun hb => by
 have := (ok.funs.mem hb).1
 rw [e] at this; cases this
theorem Inv.bs (I : Inv X pins σ H s) : ∀ b o, X.base.get? b = some o → s.heap.get? b = some o ∧ H b = none := fun b o e =>
 ⟨I.base.keep b o (I.ok.bs b o e).1 (I.ok.bs b o e).2 (I.ok.nofr e) (I.ok.noex b o e), I.base.free b o (I.ok.bs b o e).1 (I.ok.bs b o e).2 (I.ok.noex b o e)⟩
theorem Inv.bk (I : Inv X pins σ H s) : ∀ b o, X.base.get? b = some o → s.heap.get? b = some o := fun b o e => (I.bs b o e).1
theorem Inv.mod (I : Inv X pins σ H s) : Mod X.K X.mg X.base := I.ok.mod
theorem Inv.kIn (I : Inv X pins σ H s) : X.K.In s.heap := I.ok.mod.kin.keeps I.bk
theorem Inv.lt (I : Inv X pins σ H s) : X.env.locals < s.heap.objs.size := let ⟨_, hn, _⟩ := I.loc; hn.lt
theorem Inv.sz (I : Inv X pins σ H s) : X.s₀.heap.objs.size ≤ s.heap.objs.size := Nat.le_trans I.ok.above (Nat.le_of_lt I.lt)
theorem Inv.nofs (I : Inv X pins σ H s) {a : Addr} (h : s.heap.objs.size ≤ a) : a ∉ X.fs := fun hb => by
 obtain ⟨_, o, ho, _⟩ := I.ok.funs.mem hb
 exact absurd (Nat.lt_of_lt_of_le (Heap.lt_size ho) (Nat.le_trans I.sz h)) (Nat.lt_irrefl _)
theorem Inv.cne (I : Inv X pins σ H s) : ∀ x c, X.env.cells.lookup x = some c → c ≠ X.env.locals := fun x c e z => by
 obtain ⟨v, o, ho, hd⟩ := I.cell x c e
 obtain ⟨m, ⟨o', es, ep, ho', hd', _⟩, _⟩ := I.loc
 rw [z, ho'] at ho; cases ho; rw [hd'] at hd; cases hd
theorem Inv.funs (I : Inv X pins σ H s) : s.heap.FunFrames X.base X.outer := by
 have all : ∀ (l : List Env), (∀ b ∈ frs l, b ∈ X.fs) → X.s₀.heap.FunFrames X.base l → s.heap.FunFrames X.base l := by
  intro l
  induction l with
  | nil => intro _ _; trivial
  | cons env r ih =>
   intro hs hl
   obtain ⟨hk, ⟨L, o, hf, hn, ho, hd⟩, hr⟩ := hl
   have hL : L ∈ X.fs := hs L (by unfold frs; rw [List.filterMap_cons, hf]; exact List.mem_cons_self)
   obtain ⟨sl, e⟩ := I.base.slot L o ho (I.ok.frf L hL) hL fun z => I.ok.exfs L z hL
   exact ⟨hk, ⟨L, _, hf, hn, e, hd⟩, ih (fun b hb => hs b (by unfold frs; rw [List.filterMap_cons, hf]; exact List.mem_cons_of_mem _ hb)) hr⟩
 exact all X.outer (fun _ hb => hb) I.ok.funs
theorem Inv.stack (I : Inv X pins σ H s) : s.heap.FunFrames X.base X.stack := by
 rcases I.ok.stk with e | ⟨e, hf⟩
 ·rw [e]; exact I.funs
 ·rw [e]
  obtain ⟨m, hn, _⟩ := I.loc
  refine .cons (by rw [I.ok.kind]; decide) hf hn ?_ I.funs
  exact Heap.get?_none_of_le (Nat.le_trans I.ok.bsz I.ok.above)
theorem Inv.stkSub (I : Inv X pins σ H s) : ∀ b ∈ frs X.stack, b ∈ X.env.locals :: X.fs := fun b hb => by
 rcases I.ok.stk with e | ⟨e, hf⟩
 ·rw [e] at hb; exact List.mem_cons_of_mem _ hb
 ·rw [e] at hb
  unfold frs at hb
  rw [List.filterMap_cons, hf] at hb
  exact hb
theorem Inv.stkFree (I : Inv X pins σ H s) : ∀ b ∈ frs X.stack, H b = none := fun b hb => by
 rcases List.mem_cons.mp (I.stkSub b hb) with e | hb
 ·rw [e]; exact I.free
 ·obtain ⟨_, o, ho, _⟩ := I.ok.funs.mem hb
  exact I.base.free b o ho (I.ok.frf b hb) fun z => I.ok.exfs b z hb
theorem Inv.step {g' : Array GenState} {t' : Nat} {d' : Drawn} {ch : List Addr} (I : Inv X pins σ H s)
  (hch : ∀ b ∈ ch, (b ∈ X.ex ∨ X.s₀.heap.objs.size ≤ b) ∧ b ≠ X.env.locals ∧ (∀ x c, X.env.cells.lookup x = some c → c ≠ b) ∧ ∀ p ∈ X.pn ++ pins, p.1 ≠ b)
  (keep : ∀ b o, b ≠ X.env.locals → b ∉ X.fs → b ∉ ch → s.heap.get? b = some o → H b = none → h'.get? b = some o)
  (slot : ∀ b o, b ≠ X.env.locals → b ∈ X.fs → b ∉ ch → s.heap.get? b = some o → H b = none → ∃ sl, h'.get? b = some { o with slots := sl }) (free : ∀ b o, b ∉ ch → s.heap.get? b = some o → H b = none → H' b = none)
  (there : ∀ b o, b ∉ ch → s.heap.get? b = some o → ∃ o', h'.get? b = some o')
  (tups : ∀ b xs, H b = some (.tup xs) → H' b = some (.tup xs)) (frzs : ∀ b o u, H b = some (.frz o u) → H' b = some (.frz o u)) (tbls : ∀ b ps, H b = some (.tbl ps) → ∃ more, H' b = some (.tbl (ps ++ more)))
  (ns : ∀ m, s.heap.Ns X.env.locals m → h'.Ns X.env.locals m) (hok : HOk X.prog X.w H' h') (hg : AllBare g') :
  Inv X pins σ H' { s with heap := h', gens := g', drawn := d', toks := t' } := by
 have neL : ∀ b o, X.s₀.heap.get? b = some o → b ≠ X.env.locals := fun b o e => Nat.ne_of_lt (Nat.lt_of_lt_of_le (Heap.lt_size e) I.ok.above)
 have neC : ∀ b o, X.s₀.heap.get? b = some o → b ∉ X.ex → b ∉ ch := fun b o e hx hb => by
  rcases (hch b hb).1 with z | z
  ·exact hx z
  ·exact absurd (Nat.lt_of_lt_of_le (Heap.lt_size e) z) (Nat.lt_irrefl _)
 have cellK : ∀ x c, X.env.cells.lookup x = some c → ∀ v, s.heap.IsCell c v → h'.IsCell c v := fun x c e v ⟨o, ho, hd⟩ => by
  have nch : c ∉ ch := fun z => (hch c z).2.2.1 x c e rfl
  by_cases hc : c ∈ X.fs
  ·obtain ⟨sl, q⟩ := slot c o (I.cne x c e) hc nch ho (I.freeC x c e)
   exact ⟨_, q, hd⟩
  ·exact ⟨o, keep c o (I.cne x c e) hc nch ho (I.freeC x c e), hd⟩
 refine ⟨I.ok, I.os, hg, ⟨fun b o e n hb hx => ?_, fun b o e n hb hx => ?_, fun b o e n hx => ?_, fun b o e hx => ?_, fun b xs e => tups b xs (I.base.tups b xs e), fun b o xs e => frzs b o xs (I.base.frzs b o xs e), fun b ps e => ?_⟩, ?_, fun x c e => ?_, ?_, fun x c e => ?_, fun p hp => ?_, hok, I.len⟩
 ·exact keep b o (neL b o e) hb (neC b o e hx) (I.base.keep b o e n hb hx) (I.base.free b o e n hx)
 ·obtain ⟨sl, e1⟩ := I.base.slot b o e n hb hx
  obtain ⟨sl', e2⟩ := slot b _ (neL b o e) hb (neC b o e hx) e1 (I.base.free b o e n hx)
  exact ⟨sl', e2⟩
 ·obtain ⟨o', e1⟩ := I.base.there b o e hx
  exact free b o' (neC b o e hx) e1 (I.base.free b o e n hx)
 ·obtain ⟨o', e1⟩ := I.base.there b o e hx
  exact there b o' (neC b o e hx) e1
 ·obtain ⟨m1, e1⟩ := I.base.tbls b ps e
  obtain ⟨m2, e2⟩ := tbls b _ e1
  exact ⟨m1 ++ m2, by rw [e2, Array.append_assoc]⟩
 ·obtain ⟨m, hn, hl⟩ := I.loc
  refine ⟨m, ns m hn, fun i x v e1 e2 e3 => ?_⟩
  obtain ⟨u, r, l⟩ := hl i x v e1 e2 e3
  refine ⟨u, r, ?_⟩
  rcases l with l | ⟨k, c, e, z⟩
  ·exact .inl l
  ·exact .inr ⟨k, c, e, cellK x c e _ z⟩
 ·obtain ⟨v, z⟩ := I.cell x c e
  exact ⟨v, cellK x c e v z⟩
 ·obtain ⟨m, ⟨o, _, _, ho, _⟩, _⟩ := I.loc
  exact free _ o (fun z => (hch _ z).2.1 rfl) ho I.free
 ·obtain ⟨v, o, ho, hd⟩ := I.cell x c e
  exact free c o (fun z => (hch c z).2.2.1 x c e rfl) ho (I.freeC x c e)
 ·obtain ⟨e, n, ne, nf, d⟩ := I.pin p hp
  have nch : p.1 ∉ ch := fun z => (hch p.1 z).2.2.2 p hp rfl
  exact ⟨keep p.1 p.2 ne nf nch e n, free p.1 p.2 nch e n, ne, nf, d⟩
theorem Inv.un {t' : Nat} (I : Inv X pins σ H s) (u : Un X.fs [] H H' s.heap h') (hok : HOk X.prog X.w H' h') : Inv X pins σ H' { s with heap := h', toks := t' } := by
 obtain ⟨m, ⟨o, es, ep, ho, r⟩, _⟩ := id I.loc
 obtain ⟨sl, hL⟩ := u.any ho I.free (by simp)
 exact I.step (g' := s.gens) (d' := s.drawn) (ch := []) (fun _ z => nomatch z) (fun b o _ hb _ e n => u.keep b o e n hb (by simp)) (fun b o _ hb _ e n => u.slot b o e n hb (by simp)) (fun b o _ e n => u.free b o e n (by simp)) (fun b o _ e => u.there b o e (by simp)) u.tups u.frzs u.tbls (fun m' hm => by
  obtain ⟨o', es', ep', ho', r'⟩ := hm
  rw [ho] at ho'; cases ho'
  exact ⟨_, es', ep', hL, r'⟩) hok I.bare
theorem Inv.call {g' : Array GenState} {t' : Nat} {d' : Drawn} {ch : List Addr} (I : Inv X pins σ H s) (u : Un (frs X.stack) ch H H' s.heap h') (hok : HOk X.prog X.w H' h') (hg : AllBare g')
  (hch : ∀ b ∈ ch, (b ∈ X.ex ∨ X.s₀.heap.objs.size ≤ b) ∧ b ≠ X.env.locals ∧ (∀ x c, X.env.cells.lookup x = some c → c ≠ b) ∧ ∀ p ∈ X.pn ++ pins, p.1 ≠ b) :
  Inv X pins σ H' { s with heap := h', gens := g', drawn := d', toks := t' } := by
 obtain ⟨m, ⟨o, es, ep, ho, r⟩, _⟩ := id I.loc
 obtain ⟨sl, hL⟩ := u.any ho I.free fun z => (hch _ z).2.1 rfl
 exact I.step (ch := ch) hch (fun b o hL hb hc e n => u.keep b o e n (fun z => (List.mem_cons.mp (I.stkSub b z)).elim hL hb) hc) (fun b o _ _ hc e n => u.any e n hc) (fun b o hc e n => u.free b o e n hc) (fun b o hc e => u.there b o e hc) u.tups u.frzs u.tbls (fun m' hm => by
  obtain ⟨o', es', ep', ho', r'⟩ := hm
  rw [ho] at ho'; cases ho'
  exact ⟨_, es', ep', hL, r'⟩) hok hg
theorem Inv.turned {t' : Nat} {it : Addr} (I : Inv X pins σ H s) (k : ∀ b o, b ≠ it → s.heap.get? b = some o → h'.get? b = some o) (hn : H it = none) (hL : it ≠ X.env.locals)
  (h1 : it ∈ X.ex ∨ X.s₀.heap.objs.size ≤ it) (h2 : ∀ x c, X.env.cells.lookup x = some c → c ≠ it) (h3 : ∀ p ∈ X.pn ++ pins, p.1 ≠ it) : Inv X pins σ H { s with heap := h', toks := t' } := by
 have nit : ∀ b u, H b = some u → b ≠ it := fun b u e z => by rw [z, hn] at e; cases e
 refine I.step (g' := s.gens) (d' := s.drawn) (ch := [it]) (fun b hb => ?_) (fun b o _ _ hc e _ => k b o (fun z => hc (by simp [z])) e) (fun b o _ _ hc e _ => ⟨o.slots, k b o (fun z => hc (by simp [z])) e⟩) (fun _ _ _ _ n => n)
  (fun b o hc e => ⟨o, k b o (fun z => hc (by simp [z])) e⟩) (fun _ _ e => e) (fun _ _ _ e => e) (fun b ps e => ⟨#[], by rw [e]; simp⟩) (fun m hm => ?_) (fun b u e => ?_) I.bare
 ·have e : b = it := by simpa using hb
  subst e
  exact ⟨h1, hL, h2, h3⟩
 ·obtain ⟨o, es, ep, ho, r⟩ := hm
  exact ⟨o, es, ep, k _ o (Ne.symm hL) ho, r⟩
 ·refine (I.hok b u e).stay (fun c v hc q => k c v ?_ q) (fun _ q => q) fun _ _ q => q
  rcases hc with z | z
  ·rw [z]; exact nit b u e
  ·exact nit c _ z
theorem Inv.tok (I : Inv X pins σ H s) (t : Nat) : Inv X pins σ H { s with toks := t } := I.un (h' := s.heap) (t' := t) Un.refl I.hok
theorem Inv.kept {t' : Nat} (I : Inv X pins σ H s) (k : ∀ b u, s.heap.get? b = some u → h'.get? b = some u) : Inv X pins σ H { s with heap := h', toks := t' } := I.un (Un.kept k) (I.hok.kept k)
theorem Inv.laid {a : Addr} {o : HO} {t' : Nat} (I : Inv X pins σ H s) (k : ∀ b u, s.heap.get? b = some u → h'.get? b = some u) (hp : s.heap.objs.size ≤ a) (new : ObjOk X.prog X.w (upd H a o) h' a o) :
  Inv X pins σ (upd H a o) { s with heap := h', toks := t' } := I.un (Un.laid k hp (I.hok.fresh hp)) (I.hok.laid k hp new)
theorem Inv.write {x e : Addr} {o : HO} {t' : Nat} (I : Inv X pins σ H s) (mu : Mut (H x)) (he : e = x ∨ H e = some (.own x)) (k : ∀ b u, b ≠ e → s.heap.get? b = some u → h'.get? b = some u) (heo : ∃ u, h'.get? e = some u)
  (new : ObjOk X.prog X.w (upd H x o) h' x o) : Inv X pins σ (upd H x o) { s with heap := h', toks := t' } := I.un (Un.write mu he k heo) (I.hok.write mu he k heo new)
theorem Inv.pins_of {pins' : List (Addr × Obj)} (I : Inv X pins σ H s) (h : ∀ p ∈ pins', s.heap.get? p.1 = some p.2 ∧ H p.1 = none ∧ p.1 ≠ X.env.locals ∧ p.1 ∉ X.fs ∧ ∀ v, p.2.data ≠ .cell v) : Inv X pins' σ H s :=
 ⟨I.ok, I.os, I.bare, I.base, I.loc, I.cell, I.free, I.freeC, fun p hp => (List.mem_append.mp hp).elim (fun z => I.pin p (List.mem_append_left _ z)) (h p), I.hok, I.len⟩
theorem nodup_ix {N : List Str} (hN : N.Nodup) {i j : Nat} {x : Str} (a : N[i]? = some x) (b : N[j]? = some x) : i = j := by
 obtain ⟨h1, e1⟩ := List.getElem?_eq_some_iff.mp a
 obtain ⟨h2, e2⟩ := List.getElem?_eq_some_iff.mp b
 exact (List.getElem_inj hN).mp (e1.trans e2.symm)
theorem store_ok2 {M : Model} {A : Around} {E : Value → Shared → Prop} {i : Nat} {x : Str} {v : V} {u : Value} {Q : Unit → Shared → Prop} (I : Inv X pins σ H s) (hN : X.N.Nodup) (hi : X.N[i]? = some x) (hx : Loc X.env.scope x) (r : RelV v u)
  (h : ∀ s', Inv X pins (σ.set i (some v)) H s' → (∃ a, Heap.SameBut a s.heap s'.heap ∧ (a = X.env.locals ∨ X.env.cells.lookup x = some a)) → Q () s') (hf : X.fn x = true ∨ X.env.scope.names.lookup x = some .local := by first | exact .inl rfl | exact .inr rfl | assumption) : wpAny M A (storeName X.env x u) Q E s := by
 obtain ⟨m, hn, hl⟩ := id I.loc
 have hcls : (X.env.scope.kind == .class || (X.env.scope.kind == .module && X.env.locals != X.env.globals)) = false := by rw [I.ok.kind]; rfl
 have hiσ : i < σ.length := by rw [I.len]; exact (List.getElem?_eq_some_iff.mp hi).1
 have cne := I.cne
 have tracked : ∀ {a : Addr} {h' : Heap}, (∃ o, s.heap.get? a = some o ∧ H a = none) → Heap.SameBut a s.heap h' → HOk X.prog X.w H h' := fun {a h'} ha hs b ob e => by
  obtain ⟨_, _, hfree⟩ := ha
  refine (I.hok b ob e).stay (fun c w' hc q => (hs.2 c ?_).trans q) (fun _ q => q) fun _ _ q => q
  rintro rfl
  rcases hc with rfl | hc
  ·rw [hfree] at e; cases e
  ·rw [hfree] at hc; cases hc
 rcases hx with hk | hk
 ·refine wpAny_storeName_local hk hn (fun h' hn' hs => ?_) hcls
  obtain ⟨oL, _, _, hoL, _⟩ := id hn
  refine h _ ⟨I.ok, I.os, I.bare, ⟨fun b o e n hb hx => ?_, fun b o e n hb hx => ?_, I.base.free, fun b o e hx => ?_, I.base.tups, I.base.frzs, I.base.tbls⟩, ⟨_, hn', fun j y v' e1 e2 e3 => ?_⟩, fun y c e => ?_, I.free, I.freeC, fun p hp => ?_, tracked ⟨oL, hoL, I.free⟩ hs, by simpa using I.len⟩ ⟨_, hs, .inl rfl⟩
  ·exact (hs.2 b (Nat.ne_of_lt (Nat.lt_of_lt_of_le (Heap.lt_size e) I.ok.above))).trans (I.base.keep b o e n hb hx)
  ·obtain ⟨sl, e1⟩ := I.base.slot b o e n hb hx
   exact ⟨sl, (hs.2 b (Nat.ne_of_lt (Nat.lt_of_lt_of_le (Heap.lt_size e) I.ok.above))).trans e1⟩
  ·obtain ⟨o', e1⟩ := I.base.there b o e hx
   exact ⟨o', (hs.2 b (Nat.ne_of_lt (Nat.lt_of_lt_of_le (Heap.lt_size e) I.ok.above))).trans e1⟩
  ·by_cases hj : j = i
   ·subst hj
    rw [hi] at e1; cases e1
    rw [List.getElem?_set_self hiσ] at e2
    cases e2
    exact ⟨u, r, .inl ⟨hk, by simp⟩⟩
   ·rw [List.getElem?_set_ne (Ne.symm hj)] at e2
    obtain ⟨u', r', q⟩ := hl j y v' e1 e2 e3
    refine ⟨u', r', ?_⟩
    rcases q with ⟨k, e⟩ | ⟨k, c, e, z⟩
    ·refine .inl ⟨k, ?_⟩
     have : y ≠ x := fun e => hj (nodup_ix hN e1 (e ▸ hi))
     simp [this, e]
    ·exact .inr ⟨k, c, e, z.sameBut hs (cne y c e)⟩
  ·obtain ⟨w', z⟩ := I.cell y c e
   exact ⟨w', z.sameBut hs (cne y c e)⟩
  ·obtain ⟨e, n, ne, nf, d⟩ := I.pin p hp
   exact ⟨(hs.2 p.1 ne).trans e, n, ne, nf, d⟩
 ·have hfn : X.fn x = true := by
   rcases hf with z | z
   ·exact z
   ·rw [z] at hk; cases hk
  obtain ⟨c, hc⟩ := I.ok.has x (.inl hk)
  obtain ⟨w', z⟩ := I.cell x c hc
  refine wpAny_storeName_cell I.ok.kind hk hc z (fun h' hc' hs => ?_)
  obtain ⟨oc, hoc, hocd⟩ := id z
  refine h { s with heap := h' } ⟨I.ok, I.os, I.bare, ⟨fun b o e n hb hx => ?_, fun b o e n hb hx => ?_, I.base.free, fun b o e hx => ?_, I.base.tups, I.base.frzs, I.base.tbls⟩, ⟨m, hn.sameBut hs (Ne.symm (cne x c hc)), fun j y v' e1 e2 e3 => ?_⟩, fun y c' e => ?_, I.free, I.freeC, fun p hp => ?_, tracked ⟨oc, hoc, I.freeC x c hc⟩ hs, by simpa using I.len⟩ ⟨c, hs, .inr hc⟩
  ·exact (hs.2 b (Nat.ne_of_lt (Nat.lt_of_lt_of_le (Heap.lt_size e) (I.ok.cab x c hfn hc)))).trans (I.base.keep b o e n hb hx)
  ·obtain ⟨sl, e1⟩ := I.base.slot b o e n hb hx
   exact ⟨sl, (hs.2 b (Nat.ne_of_lt (Nat.lt_of_lt_of_le (Heap.lt_size e) (I.ok.cab x c hfn hc)))).trans e1⟩
  ·obtain ⟨o', e1⟩ := I.base.there b o e hx
   exact ⟨o', (hs.2 b (Nat.ne_of_lt (Nat.lt_of_lt_of_le (Heap.lt_size e) (I.ok.cab x c hfn hc)))).trans e1⟩
  ·by_cases hj : j = i
   ·subst hj
    rw [hi] at e1; cases e1
    rw [List.getElem?_set_self hiσ] at e2
    cases e2
    exact ⟨u, r, .inr ⟨.inl hk, c, hc, hc'⟩⟩
   ·rw [List.getElem?_set_ne (Ne.symm hj)] at e2
    obtain ⟨u', r', q⟩ := hl j y v' e1 e2 e3
    refine ⟨u', r', ?_⟩
    rcases q with q | ⟨k, c', e, z'⟩
    ·exact .inl q
    ·refine .inr ⟨k, c', e, z'.sameBut hs ?_⟩
     rintro rfl
     exact hj (nodup_ix hN e1 (I.ok.inj _ _ _ e hc ▸ hi))
  ·by_cases hcc : c' = c
   ·subst hcc; exact ⟨_, hc'⟩
   ·obtain ⟨w2, z2⟩ := I.cell y c' e
    exact ⟨w2, z2.sameBut hs hcc⟩
  ·obtain ⟨e, n, ne, nf, d⟩ := I.pin p hp
   refine ⟨(hs.2 p.1 ?_).trans e, n, ne, nf, d⟩
   intro q
   rw [q, hoc] at e
   have q' : oc = p.2 := Option.some.inj e
   exact d w' (by rw [← q']; exact hocd)
theorem store_ok {M : Model} {A : Around} {E : Value → Shared → Prop} {i : Nat} {x : Str} {v : V} {u : Value} {Q : Unit → Shared → Prop} (I : Inv X pins σ H s) (hN : X.N.Nodup) (hi : X.N[i]? = some x) (hx : Loc X.env.scope x) (r : RelV v u)
  (h : ∀ s', Inv X pins (σ.set i (some v)) H s' → Q () s') (hf : X.fn x = true ∨ X.env.scope.names.lookup x = some .local := by first | exact .inl rfl | exact .inr rfl | assumption) : wpAny M A (storeName X.env x u) Q E s :=
 store_ok2 I hN hi hx r (fun s' I' _ => h s' I') hf
theorem Inv.call' {s' : Shared} {ch : List Addr} (I : Inv X pins σ H s) (ho : s'.os = s.os) (u : Un (frs X.stack) ch H H' s.heap s'.heap) (hok : HOk X.prog X.w H' s'.heap) (hg : AllBare s'.gens)
  (hch : ∀ b ∈ ch, (b ∈ X.ex ∨ X.s₀.heap.objs.size ≤ b) ∧ b ≠ X.env.locals ∧ (∀ x c, X.env.cells.lookup x = some c → c ≠ b) ∧ ∀ p ∈ X.pn ++ pins, p.1 ≠ b) : Inv X pins σ H' s' := by
 obtain ⟨h', g', d', t', o'⟩ := s'
 have e : o' = s.os := ho
 subst e
 exact I.call (g' := g') (t' := t') (d' := d') u hok hg hch
end
noncomputable abbrev XK := Value → Option Addr → Hp → Prop
noncomputable abbrev St := List (Option V)
noncomputable abbrev VK := V → Hp → Prop
noncomputable abbrev TE := St → Hp → VK → Prop
noncomputable abbrev TT := St → Hp → (Bool → Hp → Prop) → Prop
noncomputable abbrev TA := St → Hp → (List V → Hp → Prop) → Prop
structure Ends where
 nx : St → Hp → Prop
 rt : VK
 bk : St → Hp → Prop := fun _ _ => False
 ct : St → Hp → Prop := fun _ _ => False
noncomputable abbrev TS := Ends → St → Hp → Prop
noncomputable def EP (X : Cx) (pins : List (Addr × Obj)) (σ : St) (Q : VK) (u : Value) (s' : Shared) : Prop := ∃ v H', Inv X pins σ H' s' ∧ RelV v u ∧ Q v H'
noncomputable def TP (X : Cx) (pins : List (Addr × Obj)) (σ : St) (Q : Bool → Hp → Prop) (b : Bool) (s' : Shared) : Prop := ∃ H', Inv X pins σ H' s' ∧ Q b H'
noncomputable def AP (X : Cx) (pins : List (Addr × Obj)) (σ : St) (Q : List V → Hp → Prop) (us : List Value) (s' : Shared) : Prop := ∃ vs H', Inv X pins σ H' s' ∧ Vals vs us ∧ Q vs H'
noncomputable def SP (X : Cx) (pins : List (Addr × Obj)) (D : Ends) (f : Flow) (s' : Shared) : Prop :=
 match f with
 | .next => ∃ σ' H', Inv X pins σ' H' s' ∧ D.nx σ' H'
 | .brk => ∃ σ' H', Inv X pins σ' H' s' ∧ D.bk σ' H'
 | .cont => ∃ σ' H', Inv X pins σ' H' s' ∧ D.ct σ' H'
 | .ret u => ∃ v σ' H', Inv X pins σ' H' s' ∧ RelV v u ∧ D.rt v H'
noncomputable def PE (X : Cx) (e : Expr) (t : TE) : Prop :=
 ∀ (pins : List (Addr × Obj)) (s : Shared) (σ : St) (H : Hp) (Q : VK), Inv X pins σ H s → t σ H Q → wpAny (model X.prog X.w) X.A (eval e X.env) (EP X pins σ Q) X.xe s
noncomputable def PT (X : Cx) (e : Expr) (t : TT) : Prop :=
 ∀ (pins : List (Addr × Obj)) (s : Shared) (σ : St) (H : Hp) (Q : Bool → Hp → Prop), Inv X pins σ H s → t σ H Q → wpAny (model X.prog X.w) X.A (isTrue e X.env (eval e X.env)) (TP X pins σ Q) X.xe s
noncomputable def PW (X : Cx) (e : Expr) (t : TT) : Prop :=
 ∀ (whole : Sem Value) (pins : List (Addr × Obj)) (s : Shared) (σ : St) (H : Hp) (Q : Bool → Hp → Prop), Inv X pins σ H s → t σ H Q → wpAny (model X.prog X.w) X.A (isTrue e X.env whole) (TP X pins σ Q) X.xe s
theorem PW.pt {X : Cx} {e : Expr} {t : TT} (h : PW X e t) : PT X e t := h _
noncomputable def PA (X : Cx) (es : List Expr) (t : TA) : Prop :=
 ∀ (pos : Pos) (pins : List (Addr × Obj)) (s : Shared) (σ : St) (H : Hp) (Q : List V → Hp → Prop), Inv X pins σ H s → t σ H Q → wpAny (model X.prog X.w) X.A (spliced (backTo pos (starEach es X.env))) (AP X pins σ Q) X.xe s
noncomputable def PS (X : Cx) (st : Stmt) (t : TS) : Prop :=
 ∀ (pins : List (Addr × Obj)) (s : Shared) (σ : St) (H : Hp) (D : Ends), Inv X pins σ H s → t D σ H → wpAny (model X.prog X.w) X.A (exec st X.env) (SP X pins D) X.xe s
noncomputable def PSs (X : Cx) (st : List Stmt) (t : TS) : Prop :=
 ∀ (pins : List (Addr × Obj)) (s : Shared) (σ : St) (H : Hp) (D : Ends), Inv X pins σ H s → t D σ H → wpAny (model X.prog X.w) X.A (execs st X.env) (SP X pins D) X.xe s
theorem thn {α : Type} {t : Sem α} {Q Q' : α → Shared → Prop} {M : Model} {A : Around} {E : Value → Shared → Prop} {s : Shared} (h : wpAny M A t Q E s) (hQ : ∀ a s, Q a s → Q' a s) : wpAny M A t Q' E s := wpAny_mono h hQ fun _ _ x => x
end L2
namespace L2
open PySem PySem.Spec PyProof.Rows
section
variable {X : Cx}
noncomputable def tVar (i : Nat) : TE := fun σ H Q => ∃ v, σ[i]? = some (some v) ∧ Q v H
noncomputable def tC (v : V) : TE := fun _ H Q => Q v H
theorem pe_var {i : Nat} {x : Str} {pos : Pos} (hN : X.N[i]? = some x) (hv : Vis X.env.scope x) (hd : (x == ("__debug__" : Str)) = false := by decide) (hcd : (x == ("__classdict__" : Str)) = false := by decide) : PE X (.Name x pos) (tVar i) := by
 intro pins s σ H Q I h
 obtain ⟨v, e, h⟩ := h
 obtain ⟨m, hn, hl⟩ := I.loc
 obtain ⟨u, r, l⟩ := hl i x v hN e hv
 have fin : EP X pins σ Q u s := ⟨v, H, I, r, h⟩
 rcases l with ⟨hk, hm⟩ | ⟨hk, c, hc, hcell⟩
 ·exact wpAny_Name (wpAny_loadName_local I.ok.kind hk hn hm fin) hd
 ·rcases hk with hk | hk
  ·exact wpAny_Name (wpAny_loadName_cell I.ok.kind hk hc hcell fin) hd
  ·exact wpAny_Name (wpAny_loadName_free I.ok.kind hk hc hcell fin hcd) hd
theorem pe_int {i j pos} : PE X (.Constant (.int i) j pos) (tC (.int i)) := fun _ _ _ H _ I h => wpAny_Constant_int ⟨.int i, H, I.tok _, ⟨_, rfl⟩, h⟩
theorem pe_bl {b j pos} : PE X (.Constant (.bool b) j pos) (tC (.bl b)) := fun _ _ _ H _ I h => Constant_bool ⟨.bl b, H, I, rfl, h⟩
theorem pe_non {j pos} : PE X (.Constant .none j pos) (tC .non) := fun _ _ _ H _ I h => Constant_none ⟨.non, H, I, rfl, h⟩
theorem pe_str {x j pos} : PE X (.Constant (.str x) j pos) (tC (.str x)) := fun _ _ _ H _ I h => Calls.Constant_str ⟨.str x, H, I.tok _, ⟨_, rfl⟩, h⟩
noncomputable def Gl (X : Cx) (x : Str) : Prop := X.env.kindOf x = some .globalImplicit
theorem ld_glob {E : Value → Shared → Prop} {pins : List (Addr × Obj)} {s : Shared} {σ : St} {H : Hp} {x : Str} {u : Value} {pos : Pos} {Q : Value → Shared → Prop} (I : Inv X pins σ H s) (hg : Gl X x) (hm : X.mg x = some u) (h : Q u s)
  (hd : (x == ("__debug__" : Str)) = false := by decide) : wpAny (model X.prog X.w) X.A (eval (.Name x pos) X.env) Q E s :=
 Calls.Name_function_global I.ok.kind hg (Calls.loadGlobal_global (by rw [I.ok.glob]; exact I.mod.glob.keeps I.bk) hm h) hd
theorem ld_blt {E : Value → Shared → Prop} {pins : List (Addr × Obj)} {s : Shared} {σ : St} {H : Hp} {x : Str} {u : Value} {pos : Pos} {Q : Value → Shared → Prop} (I : Inv X pins σ H s) (hg : Gl X x) (hm : X.mg x = none) (hv : bootBuiltins x = some u) (h : Q u s)
  (hn : x ≠ "__name__" := by decide) (hd : (x == ("__debug__" : Str)) = false := by decide) : wpAny (model X.prog X.w) X.A (eval (.Name x pos) X.env) Q E s := by
 obtain ⟨mb, h1, h2⟩ := I.mod.blt
 exact Calls.Name_function_global I.ok.kind hg (Calls.loadGlobal_builtin (by rw [I.ok.glob]; exact I.mod.glob.keeps I.bk) hm (by rw [I.ok.blt]; exact h1.keeps I.bk) ((h2 x hn).trans hv) h) hd
theorem pe_glob {x : Str} {v : V} {u : Value} {pos : Pos} (hg : Gl X x) (hm : X.mg x = some u) (r : RelV v u) (hd : (x == ("__debug__" : Str)) = false := by decide) : PE X (.Name x pos) (tC v) :=
 fun _ _ _ H _ I h => ld_glob I hg hm ⟨v, H, I, r, h⟩ hd
theorem pe_bltn {x : Str} {v : V} {u : Value} {pos : Pos} (hg : Gl X x) (hm : X.mg x = none) (hv : bootBuiltins x = some u) (r : RelV v u) (hn : x ≠ "__name__" := by decide) (hd : (x == ("__debug__" : Str)) = false := by decide) : PE X (.Name x pos) (tC v) :=
 fun _ _ _ H _ I h => ld_blt I hg hm hv ⟨v, H, I, r, h⟩ hn hd
variable {a b : Expr} {ta tb : TE} {pos : Pos}
noncomputable def tB (t : TE) : TT := fun σ H Q => t σ H fun x H1 => ∃ c, x = .bl c ∧ Q c H1
theorem pt_val {e : Expr} {t : TE} (h : PE X e t) (he : ∀ whole, isTrue e X.env whole = (do let v ← whole; standAt e.pos; holding [v] (truthy v)) := by intro _; rfl) : PT X e (tB t) := by
 intro pins s σ H Q I hw
 refine isTrue_plain (thn (h pins s σ H _ I hw) fun v s1 ⟨x, H1, I1, r1, q1⟩ => ?_) (he _)
 obtain ⟨d, rfl, q⟩ := q1
 cases r1
 exact wpAny_truthy_bool ⟨H1, I1, q⟩
variable {tA tB' : TT} {rest : List Expr}
noncomputable def tAnd (t u : TT) : TT := fun σ H Q => t σ H fun c H1 => if c = true then u σ H1 Q else Q false H1
noncomputable def tOr (t u : TT) : TT := fun σ H Q => t σ H fun c H1 => if c = true then Q true H1 else u σ H1 Q
noncomputable def tNot (t : TT) : TT := fun σ H Q => t σ H fun c H1 => Q (!c) H1
theorem pw_and1 (ha : PT X a tA) : PW X (.BoolOp .And [a] pos) tA := by
 intro wh pins s σ H Q I h
 refine isTrue_and (thn (ha pins s σ H Q I h) fun c s1 e => ?_)
 cases c with
 | true => exact isTrue_and_nil e
 | false => exact e
theorem pw_or1 (ha : PT X a tA) : PW X (.BoolOp .Or [a] pos) tA := by
 intro wh pins s σ H Q I h
 refine isTrue_or (thn (ha pins s σ H Q I h) fun c s1 e => ?_)
 cases c with
 | false => exact isTrue_or_nil e
 | true => exact e
theorem pw_and (ha : PT X a tA) (hb : PW X (.BoolOp .And (b :: rest) pos) tB') : PW X (.BoolOp .And (a :: b :: rest) pos) (tAnd tA tB') := by
 intro wh pins s σ H Q I h
 refine isTrue_and (thn (ha pins s σ H _ I h) fun c s1 ⟨H1, I1, q1⟩ => ?_)
 cases c with
 | true => exact hb wh pins s1 σ H1 Q I1 q1
 | false => exact ⟨H1, I1, q1⟩
theorem pw_or (ha : PT X a tA) (hb : PW X (.BoolOp .Or (b :: rest) pos) tB') : PW X (.BoolOp .Or (a :: b :: rest) pos) (tOr tA tB') := by
 intro wh pins s σ H Q I h
 refine isTrue_or (thn (ha pins s σ H _ I h) fun c s1 ⟨H1, I1, q1⟩ => ?_)
 cases c with
 | true => exact ⟨H1, I1, q1⟩
 | false => exact hb wh pins s1 σ H1 Q I1 q1
theorem pt_not (ha : PT X a tA) : PT X (.UnaryOp .Not a pos) (tNot tA) := by
 intro pins s σ H Q I h
 exact isTrue_not (ha pins s σ H (fun c H1 => Q (!c) H1) I h)
noncomputable def tAndV (ta tb : TE) : TE := fun σ H Q => ta σ H fun x H1 => ∃ c, x = .bl c ∧ if c = true then tb σ H1 Q else Q (.bl false) H1
noncomputable def tOrV (ta tb : TE) : TE := fun σ H Q => ta σ H fun x H1 => ∃ c, x = .bl c ∧ if c = true then Q (.bl true) H1 else tb σ H1 Q
noncomputable def tNotV (ta : TE) : TE := fun σ H Q => ta σ H fun x H1 => ∃ c, x = .bl c ∧ Q (.bl (!c)) H1
theorem pe_one {op} {t : TE} (h : PE X a t) : PE X (.BoolOp op [a] pos) t := fun pins s σ H Q I hw => BoolOp_one (h pins s σ H Q I hw)
theorem pe_and (ha : PE X a ta) (hb : PE X (.BoolOp .And (b :: rest) pos) tb) : PE X (.BoolOp .And (a :: b :: rest) pos) (tAndV ta tb) := by
 intro pins s σ H Q I h
 refine BoolOp_and (thn (ha pins s σ H _ I h) fun v s1 ⟨x, H1, I1, r1, q1⟩ => ?_)
 obtain ⟨c, rfl, q1⟩ := q1
 cases r1
 refine wpAny_truthy_bool ?_
 cases c with
 | true => exact hb pins s1 σ H1 Q I1 q1
 | false => exact ⟨.bl false, H1, I1, rfl, q1⟩
theorem pe_not (ha : PE X a ta) : PE X (.UnaryOp .Not a pos) (tNotV ta) := by
 intro pins s σ H Q I h
 refine UnaryOp_ (thn (ha pins s σ H _ I h) fun v s1 ⟨x, H1, I1, r1, q1⟩ => ?_)
 obtain ⟨c, rfl, q1⟩ := q1
 cases r1
 exact not_of (wpAny_truthy_bool ⟨.bl (!c), H1, I1, rfl, q1⟩)
noncomputable def tIf (t : TT) (ta tb : TE) : TE := fun σ H Q => t σ H fun c H1 => if c = true then ta σ H1 Q else tb σ H1 Q
theorem pe_ifExp {c : Expr} (hc : PT X c tA) (ha : PE X a ta) (hb : PE X b tb) : PE X (.IfExp c a b pos) (tIf tA ta tb) := by
 intro pins s σ H Q I h
 refine wpAny_IfExp (thn (hc pins s σ H _ I h) fun d s1 ⟨H1, I1, q1⟩ => ?_)
 cases d with
 | true => exact ha pins s1 σ H1 Q I1 q1
 | false => exact hb pins s1 σ H1 Q I1 q1
end
end L2
namespace L2
open PySem PySem.Spec PyProof.Rows
noncomputable def SqL (K : PySem.W.Frag) (H : Hp) (a : Addr) (xs : List V) : Prop :=
 Rd H a (.lst xs) ∨
  ∃ (o : Obj) (its : Array Value) (n : Nat), K.lookup a = some o ∧ o.cls = .type "list" ∧ o.dict = none ∧ o.data = .seq its n ∧ its.size ≤ sizeLine ∧ Vals xs its.toList
noncomputable def SqT (K : PySem.W.Frag) (H : Hp) (a : Addr) (xs : List V) : Prop :=
 Rd H a (.tup xs) ∨
  ∃ (o : Obj) (its : Array Value) (n : Nat), K.lookup a = some o ∧ o.cls = .type "tuple" ∧ o.data = .seq its n ∧ its.size ≤ sizeLine ∧ Vals xs its.toList
noncomputable def absV : Value → Option V
 | .none => some .non
 | .bool b => some (.bl b)
 | .int i _ => some (.int i)
 | .str x _ => some (.str x)
 | .bytes b _ => some (.byt b)
 | .float b _ => some (.flt b)
 | .ref a => some (.ref a)
 | .type n => some (.ty n)
 | _ => none
theorem RelV.abs {x : V} {u : Value} (r : RelV x u) : absV u = some x := by
 cases x with
 | non => cases r; rfl
 | bl _ => cases r; rfl
 | int _ => obtain ⟨t, rfl⟩ := r; rfl
 | str _ => obtain ⟨t, rfl⟩ := r; rfl
 | byt _ => obtain ⟨t, rfl⟩ := r; rfl
 | flt _ => obtain ⟨t, rfl⟩ := r; rfl
 | ref _ => cases r; rfl
 | ty _ => cases r; rfl
theorem RelV.inj {x y : V} {u : Value} (r : RelV x u) (q : RelV y u) : x = y := Option.some.inj (r.abs.symm.trans q.abs)
theorem Vals.inj : ∀ {xs ys : List V} {us : List Value}, Vals xs us → Vals ys us → xs = ys
 | _, _, _, .nil, .nil => rfl
 | _, _, _, .cons r t, .cons r' t' => by rw [r.inj r', Vals.inj t t']
section
variable {X : Cx} {pins : List (Addr × Obj)} {σ : St} {H : Hp} {s : Shared} {a : Addr} {xs ys : List V}
theorem SqL.of {K : PySem.W.Frag} (h : H a = some (.lst xs)) : SqL K H a xs := .inl (.inl h)
theorem SqT.of {K : PySem.W.Frag} (h : H a = some (.tup xs)) : SqT K H a xs := .inl (.inl h)
theorem Inv.list (I : Inv X pins σ H s) (h : SqL X.K H a xs) : ∃ its : List Value, Vals xs its ∧ PlainL s.heap a its.toArray ∧ xs.length ≤ sizeLine := by
 rcases h with h | ⟨o, its, n, hk, hc, hd, hs, hz, r⟩
 ·obtain ⟨z, its, n, r, e⟩ := h.ok I.hok
  exact ⟨its, r, ⟨_, n, e, rfl, rfl, rfl⟩, z⟩
 ·refine ⟨its.toList, r, ⟨o, n, I.kIn a o hk, hc, hd, by simpa using hs⟩, ?_⟩
  have e := r.length
  simp only [Array.length_toList] at e
  omega
theorem Inv.tuple (I : Inv X pins σ H s) (h : SqT X.K H a xs) : ∃ its : List Value, Vals xs its ∧ IsTup s.heap a its.toArray ∧ xs.length ≤ sizeLine := by
 rcases h with h | ⟨o, its, n, hk, hc, hs, hz, r⟩
 ·obtain ⟨z, its, r, p⟩ := h.ok I.hok
  exact ⟨its, r, p, z⟩
 ·refine ⟨its.toList, r, ⟨o, I.kIn a o hk, hc, n, by simpa using hs⟩, ?_⟩
  have e := r.length
  simp only [Array.length_toList] at e
  omega
theorem Inv.list_inj (I : Inv X pins σ H s) (h : SqL X.K H a xs) (h' : SqL X.K H a ys) : xs = ys := by
 obtain ⟨its, r, ⟨o, n, e, _, _, d⟩, _⟩ := I.list h
 obtain ⟨its', r', ⟨o', n', e', _, _, d'⟩, _⟩ := I.list h'
 rw [e] at e'; cases e'
 rw [d] at d'
 injection d' with d1 _
 have : its = its' := by simpa using congrArg Array.toList d1
 subst this
 exact r.inj r'
theorem Inv.tuple_inj (I : Inv X pins σ H s) (h : SqT X.K H a xs) (h' : SqT X.K H a ys) : xs = ys := by
 obtain ⟨its, r, ⟨o, e, _, n, d⟩, _⟩ := I.tuple h
 obtain ⟨its', r', ⟨o', e', _, n', d'⟩, _⟩ := I.tuple h'
 rw [e] at e'; cases e'
 rw [d] at d'
 injection d' with d1 _
 have : its = its' := by simpa using congrArg Array.toList d1
 subst this
 exact r.inj r'
end
noncomputable abbrev Cx.wish (X : Cx) (E : Value → Shared → Prop) : Cx := { X with xe := E }
noncomputable abbrev Cx.nox (X : Cx) : Cx := X.wish fun _ _ => False
theorem Cx.Ok.wish {X : Cx} (ok : X.Ok) (E : Value → Shared → Prop) : (X.wish E).Ok :=
 ⟨ok.mod, ok.kind, ok.glob, ok.blt, ok.above, ok.inj, ok.has, ok.cab, ok.hd, ok.frames, ok.stk, ok.exf, ok.bs, ok.bsz, ok.noex, ok.exfs, ok.funs, ok.frf⟩
theorem Cx.Ok.unwish {X : Cx} {E : Value → Shared → Prop} (ok : (X.wish E).Ok) : X.Ok :=
 ⟨ok.mod, ok.kind, ok.glob, ok.blt, ok.above, ok.inj, ok.has, ok.cab, ok.hd, ok.frames, ok.stk, ok.exf, ok.bs, ok.bsz, ok.noex, ok.exfs, ok.funs, ok.frf⟩
section
variable {X : Cx} {pins : List (Addr × Obj)} {σ : St} {H : Hp} {s : Shared} {E : Value → Shared → Prop}
theorem Inv.wish (I : Inv X pins σ H s) (E : Value → Shared → Prop) : Inv (X.wish E) pins σ H s := ⟨I.ok.wish E, I.os, I.bare, I.base, I.loc, I.cell, I.free, I.freeC, I.pin, I.hok, I.len⟩
theorem Inv.unwish (I : Inv (X.wish E) pins σ H s) : Inv X pins σ H s := ⟨I.ok.unwish, I.os, I.bare, I.base, I.loc, I.cell, I.free, I.freeC, I.pin, I.hok, I.len⟩
theorem SP.unwish {D : Ends} {f : Flow} {s' : Shared} (h : SP (X.wish E) pins D f s') : SP X pins D f s' := by
 cases f with
 | next => obtain ⟨σ', H', I, q⟩ := h; exact ⟨σ', H', I.unwish, q⟩
 | brk => obtain ⟨σ', H', I, q⟩ := h; exact ⟨σ', H', I.unwish, q⟩
 | cont => obtain ⟨σ', H', I, q⟩ := h; exact ⟨σ', H', I.unwish, q⟩
 | ret u => obtain ⟨v, σ', H', I, r, q⟩ := h; exact ⟨v, σ', H', I.unwish, r, q⟩
theorem PT.nox {e : Expr} {t : TT} (h : PT X.nox e t) : PT X e t := fun pins s σ H Q I hw =>
 wpAny_mono (h pins s σ H Q (I.wish _) hw) (fun _ _ ⟨H', I', q⟩ => ⟨H', I'.unwish, q⟩) fun _ _ z => False.elim z
theorem PSs.nox {st : List Stmt} {t : TS} (h : PSs X.nox st t) : PSs X st t := fun pins s σ H D I hw =>
 wpAny_mono (h pins s σ H D (I.wish _) hw) (fun _ _ q => q.unwish) fun _ _ z => False.elim z
end
section
variable {X : Cx} {st : Stmt} {rest : List Stmt} {t u : TS} {e : Expr} {te : TE} {pos : Pos}
noncomputable def tNext : TS := fun D σ H => D.nx σ H
noncomputable def tSeq (t u : TS) : TS := fun D σ H => t { D with nx := u D } σ H
theorem pss_nil : PSs X [] tNext := fun _ _ σ H _ I h => wpAny_execs_nil ⟨σ, H, I, h⟩
theorem pss_cons (h1 : PS X st t) (h2 : PSs X rest u) : PSs X (st :: rest) (tSeq t u) := by
 intro pins s σ H D I h
 refine wpAny_execs_cons (thn (h1 pins s σ H { D with nx := u D } I h) fun f s1 q => ?_)
 cases f with
 | next =>
  obtain ⟨σ', H', I', q⟩ := q
  exact h2 pins s1 σ' H' D I' q
 | ret v => exact q
 | brk => exact q
 | cont => exact q
theorem pss_one (h1 : PS X st t) : PSs X [st] t := by
 intro pins s σ H D I h
 refine wpAny_execs_cons (thn (h1 pins s σ H D I h) fun f s1 q => ?_)
 cases f with
 | next => exact wpAny_execs_nil q
 | ret v => exact q
 | brk => exact q
 | cont => exact q
noncomputable def tBreak : TS := fun D σ H => D.bk σ H
noncomputable def tCont : TS := fun D σ H => D.ct σ H
theorem Inv.quiet {pins : List (Addr × Obj)} {σ : St} {H : Hp} {s : Shared} (I : Inv X pins σ H s) : interactive X.env = false := by simp [interactive, I.ok.kind]
noncomputable def tDrop (te : TE) : TS := fun D σ H => te σ H fun _ H1 => D.nx σ H1
theorem ps_expr (he : PE X e te) (hs : swapsWith e none pos.line X.env = pure false := by rfl) : PS X (.Expr e pos) (tDrop te) := by
 intro pins s σ H D I h
 exact wpAny_Expr_any (thn (he pins s σ H _ I h) fun v s1 ⟨x, H1, I1, r1, q1⟩ => ⟨σ, H1, I1, q1⟩) I.quiet hs
noncomputable def tRet (te : TE) : TS := fun D σ H => te σ H D.rt
theorem ps_ret (he : PE X e te) : PS X (.Return (some e) pos) (tRet te) := by
 intro pins s σ H D I h
 exact wpAny_Return_some (thn (he pins s σ H _ I h) fun v s1 ⟨x, H1, I1, r1, q1⟩ => ⟨x, σ, H1, I1, r1, q1⟩)
noncomputable def tRetN : TS := fun D _ H => D.rt .non H
noncomputable def tIfS (c : TT) (t u : TS) : TS := fun D σ H => c σ H fun b H1 => if b = true then t D σ H1 else u D σ H1
theorem ps_if {c : Expr} {a b : List Stmt} {tc : TT} (hc : PT X c tc) (ha : PSs X a t) (hb : PSs X b u) : PS X (.If c a b pos) (tIfS tc t u) := by
 intro pins s σ H D I h
 refine wpAny_If (thn (hc pins s σ H _ I h) fun d s1 ⟨H1, I1, q1⟩ => ?_)
 cases d with
 | true => exact ha pins s1 σ H1 D I1 q1
 | false => exact hb pins s1 σ H1 D I1 q1
end
noncomputable abbrev TG := V → St → Hp → (St → Hp → Prop) → Prop
noncomputable abbrev TGs := List V → St → Hp → (St → Hp → Prop) → Prop
noncomputable def PG (X : Cx) (target : Expr) (t : TG) : Prop :=
 ∀ (pins : List (Addr × Obj)) (s : Shared) (σ : St) (H : Hp) (v : V) (u : Value) (Q : St → Hp → Prop), Inv X pins σ H s → RelV v u → t v σ H Q →
  wpAny (model X.prog X.w) X.A (assign target X.env u) (fun _ s' => ∃ σ' H', Inv X pins σ' H' s' ∧ Q σ' H') X.xe s
noncomputable def PGs (X : Cx) (ts : List Expr) (t : TGs) : Prop :=
 ∀ (pins : List (Addr × Obj)) (s : Shared) (σ : St) (H : Hp) (vs : List V) (us : List Value) (Q : St → Hp → Prop), Inv X pins σ H s → Vals vs us → t vs σ H Q →
  wpAny (model X.prog X.w) X.A (assignInOrder ((assignEach ts X.env).map (·.2)) us) (fun _ s' => ∃ σ' H', Inv X pins σ' H' s' ∧ Q σ' H') X.xe s
noncomputable abbrev TSet := V → V → V → Hp → (Hp → Prop) → Prop
section
variable {X : Cx} {pos : Pos}
noncomputable def gName (i : Nat) : TG := fun v σ H Q => Q (σ.set i (some v)) H
theorem pg_name {i : Nat} {x : Str} (hN : X.N.Nodup) (hi : X.N[i]? = some x) (hx : Loc X.env.scope x) (hf : X.fn x = true ∨ X.env.scope.names.lookup x = some .local := by first | exact .inl rfl | exact .inr rfl | assumption) : PG X (.Name x pos) (gName i) := by
 intro pins s σ H v u Q I r h
 exact wpAny_assign_Name (store_ok I hN hi hx r (fun s' I' => ⟨_, H, I', h⟩) hf)
noncomputable def gNil : TGs := fun vs σ H Q => vs = [] ∧ Q σ H
noncomputable def gCons (t : TG) (u : TGs) : TGs := fun vs σ H Q => ∃ v r, vs = v :: r ∧ t v σ H fun σ' H' => u r σ' H' Q
theorem pgs_nil : PGs X [] gNil := by
 intro pins s σ H vs us Q I r h
 obtain ⟨e, h⟩ := h
 subst e
 cases r
 exact assignInOrder_nil ⟨σ, H, I, h⟩
theorem pgs_cons {e : Expr} {es : List Expr} {t : TG} {u : TGs} (h1 : PG X e t) (h2 : PGs X es u)
  (hs : (assignEach (e :: es) X.env).map (·.2) = assign e X.env :: (assignEach es X.env).map (·.2) := by rfl) : PGs X (e :: es) (gCons t u) := by
 intro pins s σ H vs us Q I r h
 obtain ⟨v, vr, e1, h⟩ := h
 subst e1
 cases r with
 | cons r rr =>
  rw [hs]
  refine assignInOrder_cons (thn (h1 pins s σ H _ _ _ I r h) fun _ s1 ⟨σ1, H1, I1, q1⟩ => ?_)
  exact h2 pins s1 σ1 H1 _ _ Q I1 rr q1
noncomputable def gTup (K : PySem.W.Frag) (n : Nat) (t : TGs) : TG := fun v σ H Q => ∃ a xs, v = .ref a ∧ SqT K H a xs ∧ xs.length = n ∧ t xs σ H Q
theorem pg_tup {es : List Expr} {k : Nat} {t : TGs} {n : Nat} (hc : X.calm = true) (h : PGs X es t)
  (hn : (assignEach es X.env).length = n := by rfl) (hst : (assignEach es X.env).findIdx? (·.1) = none := by rfl) : PG X (.Tuple es k pos) (gTup X.K n t) := by
 intro pins s σ H v u Q I r hw
 obtain ⟨a, xs, e1, hq, hl, hw⟩ := hw
 subst e1
 cases r
 obtain ⟨its, rv, ht, hz⟩ := I.tuple hq
 refine assign_Tuple_tuple (I.ok.hd hc) ht (by simp [hn, ← hl, rv.length]) hst fun h' hx => ?_
 have I1 : Inv X pins σ H { s with heap := h' } := I.kept (t' := s.toks) fun b o e => hx b o (Nat.ne_of_lt (Heap.lt_size e)) e
 exact h pins _ σ H xs _ Q I1 (by simpa using rv) hw
noncomputable def gSub (to ti : TE) (t : TSet) : TG := fun v σ H Q => to σ H fun o H1 => ti σ H1 fun i H2 => t o i v H2 fun H3 => Q σ H3
noncomputable def tAsg (te : TE) (g : TG) : TS := fun D σ H => te σ H fun x H1 => g x σ H1 D.nx
theorem ps_asg {tg e : Expr} {te : TE} {g : TG} (he : PE X e te) (hg : PG X tg g) (hs : swapsWithSole [tg] e pos.line X.env = pure false := by rfl) (hw : swappedStores [tg] e X.env = pure none := by rfl)
  (h1 : (assignEach [tg] X.env).map (·.2) = [assign tg X.env] := by rfl) : PS X (.Assign [tg] e pos) (tAsg te g) := by
 intro pins s σ H D I h
 refine wpAny_Assign_stores (thn (he pins s σ H _ I h) fun v s1 ⟨x, H1, I1, r1, q1⟩ => ?_) hs hw
 rw [h1]
 exact thn (hg pins s1 σ H1 x v _ I1 r1 q1) fun _ s2 q => q
theorem ps_set {i : Nat} {x : Str} {e : Expr} {te : TE} {pos' : Pos} (hN : X.N.Nodup) (hi : X.N[i]? = some x) (hx : Loc X.env.scope x) (he : PE X e te) (hs : swapsWith e (some (.Name x pos')) pos.line X.env = pure false := by rfl) (hf : X.fn x = true ∨ X.env.scope.names.lookup x = some .local := by first | exact .inl rfl | exact .inr rfl | assumption) :
  PS X (.Assign [.Name x pos'] e pos) (tAsg te (gName i)) := by
 intro pins s σ H D I h
 refine wpAny_Assign_Name (thn (he pins s σ H _ I h) fun v s1 ⟨y, H1, I1, r1, q1⟩ => ?_) hs
 exact store_ok I1 hN hi hx r1 (fun s2 I2 => ⟨_, H1, I2, q1⟩) hf
end
section
variable {X : Cx} {pos : Pos}
end
structure It where
 go : Nat → Hp → Prop
 yld : Nat → Hp → V → Hp → Prop
 stop : Nat → Hp → Prop
noncomputable def FpOk (X : Cx) (pins : List (Addr × Obj)) (H : Hp) (b : Addr) : Prop :=
 H b = none ∧ b ≠ X.env.locals ∧ b ∉ X.fs ∧ (b ∈ X.ex ∨ X.s₀.heap.objs.size ≤ b) ∧ (∀ x c, X.env.cells.lookup x = some c → c ≠ b) ∧ ∀ p ∈ X.pn ++ pins, p.1 ≠ b
theorem Inv.fpOk {X : Cx} {pins : List (Addr × Obj)} {σ : St} {H H' : Hp} {s : Shared} {b : Addr} (I : Inv X pins σ H s) (hb : s.heap.objs.size ≤ b) (hn : H' b = none) : FpOk X pins H' b := by
 refine ⟨hn, Nat.ne_of_gt (Nat.lt_of_lt_of_le I.lt hb), I.nofs hb, .inr (Nat.le_trans I.sz hb), fun x c e z => ?_, fun p hp z => ?_⟩
 ·obtain ⟨v, q⟩ := I.cell x c e
  exact absurd (Nat.lt_of_lt_of_le q.lt (by rw [z]; exact hb)) (Nat.lt_irrefl _)
 ·exact absurd (Nat.lt_of_lt_of_le (Heap.lt_size (I.pin p hp).1) (by rw [z]; exact hb)) (Nat.lt_irrefl _)
structure Turn (P : Program) (w : World) (K : PySem.W.Frag) (tg : Expr) (J : It) (fp : List Addr) (it : Addr) (tn : Nat → Heap → Prop) : Prop where
 mem : it ∈ fp
 obj : ∀ i h, tn i h → ∀ b ∈ fp, ∃ o, h.get? b = some o ∧ ∀ v, o.data ≠ .cell v
 keep : ∀ i h h', tn i h → (∀ b ∈ fp, ∀ o, h.get? b = some o → h'.get? b = some o) → tn i h'
 item : ∀ (X : Cx), X.prog = P → X.w = w → X.K = K → X.calm = true → ∀ (i : Nat) (pins : List (Addr × Obj)) (s : Shared) (σ : St) (H : Hp) (E : Value → Shared → Prop), Inv X pins σ H s → (∀ b ∈ fp, FpOk X pins H b) → tn i s.heap → J.go i H →
  wpAny (model P w) X.A (pyNext (.ref it)) (fun r s1 => ∃ u, r = some u ∧
   wpAny (model P w) X.A (letOwnedTupleGo tg (.ref it) u) (fun _ s2 => ∃ x H', Inv X pins σ H' s2 ∧ RelV x u ∧ J.yld i H x H' ∧ tn (i + 1) s2.heap ∧ ∀ b ∈ fp, H' b = none) E s1) E s
 done : ∀ (X : Cx), X.prog = P → X.w = w → X.K = K → X.calm = true → ∀ (i : Nat) (pins : List (Addr × Obj)) (s : Shared) (σ : St) (H : Hp) (E : Value → Shared → Prop), Inv X pins σ H s → (∀ b ∈ fp, FpOk X pins H b) → tn i s.heap → J.stop i H →
  wpAny (model P w) X.A (pyNext (.ref it)) (fun r s1 => r = none ∧ Inv X pins σ H s1) E s
 self : ∀ (A : Around) (i : Nat) (s : Shared) (Q : Value → Shared → Prop) (E : Value → Shared → Prop), tn i s.heap → Q (.ref it) s → wpAny (model P w) A (pyIter (.ref it)) Q E s
noncomputable abbrev TI := St → Hp → (It → Hp → Prop) → Prop
noncomputable def PIE (X : Cx) (pins : List (Addr × Obj)) (σ : St) (tg : Expr) (R : It → Hp → Prop) (itv : Value) (s2 : Shared) : Prop :=
 ∃ (it : Addr) (fp : List Addr) (tn : Nat → Heap → Prop) (J : It) (H' : Hp), itv = .ref it ∧ Inv X pins σ H' s2 ∧ Turn X.prog X.w X.K tg J fp it tn ∧ tn 0 s2.heap ∧ (∀ b ∈ fp, FpOk X pins H' b) ∧ R J H'
noncomputable def PI (X : Cx) (tg iter : Expr) (wi : TI) : Prop :=
 ∀ (pins : List (Addr × Obj)) (s : Shared) (σ : St) (H : Hp) (R : It → Hp → Prop), Inv X pins σ H s → wi σ H R →
  wpAny (model X.prog X.w) X.A (eval iter X.env) (fun v s1 => wpAny (model X.prog X.w) X.A (pyIter v) (PIE X pins σ tg R) X.xe s1) X.xe s
theorem go_of {M : Model} {A : Around} {E : Value → Shared → Prop} {s : Shared} {tg : Expr} {it : Addr} {u : Value} {o : Obj} {n : String} {vs : Array Value} {Q : Unit → Shared → Prop} (ho : s.heap.get? it = some o) (hc : o.cls = .type n) (hd : o.data = .fields vs)
    (hn : ["enumerate", "zip", "dict_itemiterator", "dict_reverseitemiterator", "odict_iterator", "itertools.zip_longest", "itertools.pairwise"].contains n = false) (hQ : Q () s) : wpAny M A (letOwnedTupleGo tg (.ref it) u) Q E s := by
  unfold letOwnedTupleGo
  cases tg <;> first
    | exact wpAny_pure hQ
    | (cases u <;> first
        | exact wpAny_pure hQ
        | (refine wpAny_bind (wpAny_load ho ?_)
           rw [hc, hd]
           show wpAny M A (if (["enumerate", "zip", "dict_itemiterator", "dict_reverseitemiterator", "odict_iterator", "itertools.zip_longest", "itertools.pairwise"].contains n && vs[0]? == some (rawInt _)) = true then _ else _) Q E s
           rw [if_neg (by intro h; rw [hn, Bool.false_and] at h; cases h)]
           exact wpAny_pure hQ))
noncomputable def Itl (K : PySem.W.Frag) (a : Addr) : It :=
 ⟨fun i H => ∃ xs x, SqL K H a xs ∧ xs[i]? = some x, fun i H x H' => H' = H ∧ ∀ xs, SqL K H a xs → xs[i]? = some x, fun i H => ∃ xs, SqL K H a xs ∧ xs.length ≤ i⟩
noncomputable def Itt (K : PySem.W.Frag) (a : Addr) : It :=
 ⟨fun i H => ∃ xs x, SqT K H a xs ∧ xs[i]? = some x, fun i H x H' => H' = H ∧ ∀ xs, SqT K H a xs → xs[i]? = some x, fun i H => ∃ xs, SqT K H a xs ∧ xs.length ≤ i⟩
noncomputable def Itr (lo : Int) (n : Nat) : It := ⟨fun i _ => i < n, fun i H x H' => H' = H ∧ x = .int (lo + i), fun i _ => n ≤ i⟩
theorem turn_list {P : Program} {w : World} {K : PySem.W.Frag} {tg : Expr} (a it : Addr) : Turn P w K tg (Itl K a) [it] it (fun i h => h.IsListIter it a i) where
 mem := by simp
 obj := fun i h st b hb => by
  have e : b = it := by simpa using hb
  subst e
  obtain ⟨o, e, c, d⟩ := st
  exact ⟨o, e, fun v z => by rw [d] at z; cases z⟩
 keep := fun i h h' st k => st.at fun o e => k it (by simp) o e
 item := by
  intro X hP hw hK hc i pins s σ H E I hf st hg
  subst hP hw hK
  obtain ⟨xs, x, hq, hx⟩ := hg
  obtain ⟨its, rv, p, hz⟩ := I.list hq
  obtain ⟨u, hu, ru⟩ := rv.get hx
  obtain ⟨f0, f1, f2, f3, f4, f5⟩ := hf it (by simp)
  refine wpAny_pyNext_list_item st p.isList (x := u) (by simpa using hu) fun h' st' sb => ?_
  have I1 : Inv X pins σ H { s with heap := h' } := I.turned (t' := s.toks) (fun b o hb e => (sb.2 b hb).trans e) f0 f1 f3 f4 f5
  obtain ⟨o, e, c, d⟩ := id st'
  exact ⟨u, rfl, go_of (s := { s with heap := h' }) e c d (by decide) ⟨x, H, I1, ru, ⟨rfl, fun ys hy => by rw [I.list_inj hy hq]; exact hx⟩, st', fun b hb => (hf b hb).1⟩⟩
 done := by
  intro X hP hw hK hc i pins s σ H E I hf st hg
  subst hP hw hK
  obtain ⟨xs, hq, hx⟩ := hg
  obtain ⟨its, rv, p, hz⟩ := I.list hq
  obtain ⟨f0, f1, f2, f3, f4, f5⟩ := hf it (by simp)
  have hl := rv.length
  exact wpAny_pyNext_list_end (I.ok.hd hc) st p.isList (by simp; omega) fun h' eb => ⟨rfl, I.turned (t' := s.toks) (fun b o hb e => eb b o hb e) f0 f1 f3 f4 f5⟩
 self := fun _ _ _ _ _ st h => wpAny_pyIter_listiter st h
theorem turn_tuple {P : Program} {w : World} {K : PySem.W.Frag} {tg : Expr} (a it : Addr) : Turn P w K tg (Itt K a) [it] it (fun i h => h.IsTupleIter it a i) where
 mem := by simp
 obj := fun i h st b hb => by
  have e : b = it := by simpa using hb
  subst e
  obtain ⟨o, e, c, d⟩ := st
  exact ⟨o, e, fun v z => by rw [d] at z; cases z⟩
 keep := fun i h h' st k => st.at fun o e => k it (by simp) o e
 item := by
  intro X hP hw hK hc i pins s σ H E I hf st hg
  subst hP hw hK
  obtain ⟨xs, x, hq, hx⟩ := hg
  obtain ⟨its, rv, p, hz⟩ := I.tuple hq
  obtain ⟨u, hu, ru⟩ := rv.get hx
  obtain ⟨f0, f1, f2, f3, f4, f5⟩ := hf it (by simp)
  refine wpAny_pyNext_tuple_item st (show s.heap.IsTuple a its.toArray from p) (x := u) (by simpa using hu) fun h' st' sb => ?_
  have I1 : Inv X pins σ H { s with heap := h' } := I.turned (t' := s.toks) (fun b o hb e => (sb.2 b hb).trans e) f0 f1 f3 f4 f5
  obtain ⟨o, e, c, d⟩ := id st'
  exact ⟨u, rfl, go_of (s := { s with heap := h' }) e c d (by decide) ⟨x, H, I1, ru, ⟨rfl, fun ys hy => by rw [I.tuple_inj hy hq]; exact hx⟩, st', fun b hb => (hf b hb).1⟩⟩
 done := by
  intro X hP hw hK hc i pins s σ H E I hf st hg
  subst hP hw hK
  obtain ⟨xs, hq, hx⟩ := hg
  obtain ⟨its, rv, p, hz⟩ := I.tuple hq
  obtain ⟨f0, f1, f2, f3, f4, f5⟩ := hf it (by simp)
  have hl := rv.length
  exact wpAny_pyNext_tuple_end (I.ok.hd hc) st (show s.heap.IsTuple a its.toArray from p) (by simp; omega) fun h' eb => ⟨rfl, I.turned (t' := s.toks) (fun b o hb e => eb b o hb e) f0 f1 f3 f4 f5⟩
 self := fun _ _ _ _ _ st h => wpAny_pyIter_tupleiter st h
theorem turn_range {P : Program} {w : World} {K : PySem.W.Frag} {tg : Expr} (it : Addr) (lo : Int) (n : Nat) : Turn P w K tg (Itr lo n) [it] it (fun i h => IsRangeIter h it (lo + (i : Nat) * 1) ((n : Int) - (i : Nat)) 1) where
 mem := by simp
 obj := fun i h st b hb => by
  have e : b = it := by simpa using hb
  subst e
  exact ⟨_, st, fun v z => by
   have z' : Data.fields _ = Data.cell v := z
   cases z'⟩
 keep := fun i h h' st k => k it (by simp) _ st
 item := by
  intro X hP hw hK hc i pins s σ H E I hf st hg
  subst hP hw hK
  obtain ⟨f0, f1, f2, f3, f4, f5⟩ := hf it (by simp)
  have W := Walks.range (prog := X.prog) (w := X.w) (I.ok.hd hc) it lo 1 n
  refine W.item i s _ _ hg st fun v h' tk hv st' kk => ?_
  obtain ⟨t, rfl⟩ := hv
  have I1 : Inv X pins σ H { s with heap := h', toks := tk } := I.turned (fun b o hb e => kk b o (by simpa using hb) e) f0 f1 f3 f4 f5
  refine ⟨_, rfl, go_of (s := { s with heap := h', toks := tk }) (n := "range_iterator") st' rfl rfl (by decide) ⟨.int (lo + i), H, I1, ⟨t, ?_⟩, ⟨rfl, rfl⟩, st', fun b hb => (hf b hb).1⟩⟩
  rw [Int.mul_one]
 done := by
  intro X hP hw hK hc i pins s σ H E I hf st hg
  subst hP hw hK
  obtain ⟨f0, f1, f2, f3, f4, f5⟩ := hf it (by simp)
  exact wpAny_pyNext_range_end (I.ok.hd hc) st (by have : n ≤ i := hg; omega) fun h' eb => ⟨rfl, I.turned (t' := s.toks) (fun b o hb e => eb b o hb e) f0 f1 f3 f4 f5⟩
 self := fun _ _ _ _ _ st h => wpAny_pyIter_rangeiter st h
end L2
namespace L2
open PySem PySem.Spec PyProof.Rows
section
variable {X : Cx} {tg : Expr}
theorem range_it {pins : List (Addr × Obj)} {σ : St} {H : Hp} {s : Shared} {R : It → Hp → Prop} {E : Value → Shared → Prop} {lo hi : Int} {t u v : Tok} {tk : Nat} (I : Inv X pins σ H s) (h1 : -(2 ^ 62) ≤ lo) (h2 : lo < 2 ^ 62) (h3 : -(2 ^ 62) ≤ hi) (h4 : hi < 2 ^ 62)
  (q : R (Itr lo (hi - lo).toNat) H) : wpAny (model X.prog X.w) X.A (pyIter (.ref s.heap.objs.size)) (PIE X pins σ tg R) E { s with heap := s.heap.push { cls := .type "range", data := .fields #[.int lo t, .int hi u, .int 1 v] }, toks := tk } := by
 refine wpAny_pyIter_range (IsRange.new ..) (small_one h1 h2 h3 h4) ?_
 have I1 : Inv X pins σ H { s with heap := s.heap.push { cls := .type "range", data := .fields #[.int lo t, .int hi u, .int 1 v] }, toks := tk } := I.kept fun b o e => Heap.get?_push_of_some _ e
 refine ⟨(s.heap.push { cls := .type "range", data := .fields #[.int lo t, .int hi u, .int 1 v] }).objs.size, [(s.heap.push { cls := .type "range", data := .fields #[.int lo t, .int hi u, .int 1 v] }).objs.size], _, _, H, rfl,
  I1.kept (t' := tk) fun b o e => Heap.get?_push_of_some _ e, turn_range _ lo (hi - lo).toNat, ?_, fun b hb => ?_, q⟩
 ·have e1 : lo + ((0 : Nat) : Int) * 1 = lo := by simp
  have e2 : (((hi - lo).toNat : Nat) : Int) - ((0 : Nat) : Int) = Builtin.Range.rangeSize lo hi 1 := by rw [rangeSize_one]; split <;> omega
  show IsRangeIter _ _ (lo + ((0 : Nat) : Int) * 1) ((((hi - lo).toNat : Nat) : Int) - ((0 : Nat) : Int)) 1
  rw [e1, e2]
  exact Heap.get?_push_size _ rfl
 ·have e : b = (s.heap.push { cls := .type "range", data := .fields #[.int lo t, .int hi u, .int 1 v] }).objs.size := by simpa using hb
  subst e
  exact I1.fpOk (Nat.le_refl _) (I1.hok.fresh (Nat.le_refl _))
noncomputable def tFor (wi : TI) (g : TG) (tb : TS) : TS := fun D σ H => wi σ H fun J H1 => ∃ W : Nat → Nat → St → Hp → Prop, (∃ m, W 0 m σ H1) ∧ ∀ i m σ H, W i m σ H →
 (J.stop i H ∧ D.nx σ H) ∨ (J.go i H ∧ ∃ N : St → Hp → Prop, (∀ σ' H', N σ' H' → ∃ m', m' < m ∧ W (i + 1) m' σ' H') ∧ ∀ x H', J.yld i H x H' → g x σ H' fun σ2 H2 => tb { D with nx := N, ct := N, bk := D.nx } σ2 H2)
noncomputable def pinsAt (fp : List Addr) (h : Heap) : List (Addr × Obj) := fp.filterMap fun b => (h.get? b).map fun o => (b, o)
theorem mem_pinsAt {fp : List Addr} {h : Heap} {b : Addr} {o : Obj} (hb : b ∈ fp) (e : h.get? b = some o) : (b, o) ∈ pinsAt fp h := List.mem_filterMap.mpr ⟨b, hb, by rw [e]; rfl⟩
theorem of_pinsAt {fp : List Addr} {h : Heap} {p : Addr × Obj} (hp : p ∈ pinsAt fp h) : p.1 ∈ fp ∧ h.get? p.1 = some p.2 := by
 obtain ⟨b, hb, e⟩ := List.mem_filterMap.mp hp
 cases q : h.get? b with
 | none => rw [q] at e; cases e
 | some o =>
  rw [q] at e
  have e' : (b, o) = p := Option.some.inj e
  subst e'
  exact ⟨hb, q⟩
theorem Inv.pinned {pins : List (Addr × Obj)} {σ : St} {H : Hp} {s : Shared} {fp : List Addr} (I : Inv X pins σ H s) (hf : ∀ b ∈ fp, FpOk X pins H b) (ho : ∀ b ∈ fp, ∃ o, s.heap.get? b = some o ∧ ∀ v, o.data ≠ .cell v) : Inv X (pins ++ pinsAt fp s.heap) σ H s :=
 I.pins_of fun p hp => (List.mem_append.mp hp).elim (fun z => I.pin p (List.mem_append_right _ z)) fun z => by
  obtain ⟨hb, e⟩ := of_pinsAt z
  obtain ⟨f0, f1, f2, _⟩ := hf p.1 hb
  obtain ⟨o, e', d⟩ := ho p.1 hb
  rw [e] at e'; cases e'
  exact ⟨e, f0, f1, f2, d⟩
theorem Inv.unpinned {pins pl : List (Addr × Obj)} {σ : St} {H : Hp} {s : Shared} (I : Inv X (pins ++ pl) σ H s) : Inv X pins σ H s := I.pins_of fun p hp => I.pin p (List.mem_append_right _ (List.mem_append_left _ hp))
theorem ps_for {iter : Expr} {body : List Stmt} {wi : TI} {g : TG} {tb : TS} {pos : Pos} (hp : PassesOwn (model X.prog X.w) X.A X.env X.xe) (hc : X.calm = true) (hi : PI X tg iter wi) (hg : PG X tg g) (hb : PSs X body tb)
  (hs : ∀ x, foldedSetIterable iter X.env x = pure x := by intro _; rfl) : PS X (.For tg iter body [] pos) (tFor wi g tb) := by
 intro pins s σ H D I h
 refine wpAny_For (thn (hi pins s σ H _ I h) fun v s1 h1 => thn h1 fun itv s2 h2 => ?_) hs
 obtain ⟨it, fp, tn, J, H2, e, I2, T, st2, f2, W, ⟨m0, w0⟩, turn⟩ := h2
 subst e
 -- what stays true of the iterator's objects through the loop
 have stat : ∀ {H' : Hp}, (∀ b ∈ fp, H' b = none) → ∀ b ∈ fp, FpOk X pins H' b := fun hn b hb => ⟨hn b hb, (f2 b hb).2⟩
 refine codeAny_forLoop_any (fun n s' => ∃ i σ' H', Inv X pins σ' H' s' ∧ tn i s'.heap ∧ (∀ b ∈ fp, H' b = none) ∧ W i n σ' H') ?_ m0 ⟨0, σ, H2, I2, st2, fun b hb => (f2 b hb).1, w0⟩
 rintro n s3 ⟨i, σ3, H3, I3, st3, fr3, w3⟩
 rcases turn i n σ3 H3 w3 with ⟨stop, qn⟩ | ⟨go, N, hN, step⟩
 ·refine wpAny_passesOwn hp (thn (T.done X rfl rfl rfl hc i pins s3 σ3 H3 X.xe I3 (stat fr3) st3 stop) fun r s4 ⟨hr, I4⟩ => ?_)
  subst hr
  exact wpAny_execs_nil ⟨σ3, H3, I4, qn⟩
 ·refine wpAny_passesOwn hp (thn (T.item X rfl rfl rfl hc i pins s3 σ3 H3 X.xe I3 (stat fr3) st3 go) fun r s4 ⟨u, hr, h4⟩ => ?_)
  subst hr
  refine wpAny_passesOwn hp (thn h4 fun _ s5 ⟨x, H5, I5, r5, y5, st5, fr5⟩ => ?_)
  have I5' := I5.pinned (stat fr5) (T.obj _ _ st5)
  refine wpAny_passesOwn hp (thn (hg _ s5 σ3 H5 x u _ I5' r5 (step x H5 y5)) fun _ s6 ⟨σ6, H6, I6, q6⟩ => ?_)
  refine wpAny_passesOwn hp (thn (hb _ s6 σ6 H6 _ I6 q6) fun f s7 q7 => ?_)
  have again : ∀ {σ7 : St} {H7 : Hp}, Inv X (pins ++ pinsAt fp s5.heap) σ7 H7 s7 → N σ7 H7 → ∃ m, m < n ∧ ∃ i σ' H', Inv X pins σ' H' s7 ∧ tn i s7.heap ∧ (∀ b ∈ fp, H' b = none) ∧ W i m σ' H' := fun {σ7 H7} I7 n7 => by
   obtain ⟨m', hm, w7⟩ := hN σ7 H7 n7
   refine ⟨m', hm, i + 1, σ7, H7, I7.unpinned, T.keep _ _ _ st5 fun b hb o e => (I7.pin (b, o) (List.mem_append_right _ (List.mem_append_right _ (mem_pinsAt hb e)))).1, fun b hb => ?_, w7⟩
   obtain ⟨o, e, d⟩ := T.obj _ _ st5 b hb
   exact (I7.pin (b, o) (List.mem_append_right _ (List.mem_append_right _ (mem_pinsAt hb e)))).2.1
  cases f with
  | next => obtain ⟨σ7, H7, I7, n7⟩ := q7; exact again I7 n7
  | cont => obtain ⟨σ7, H7, I7, n7⟩ := q7; exact again I7 n7
  | brk => obtain ⟨σ7, H7, I7, q7⟩ := q7; exact ⟨σ7, H7, I7.unpinned, q7⟩
  | ret v => obtain ⟨x7, σ7, H7, I7, r7, q7⟩ := q7; exact ⟨x7, σ7, H7, I7.unpinned, r7, q7⟩
end
theorem for_list {K : PySem.W.Frag} {a : Addr} {xs : List V} {g : TG} {tb : TS} {D : Ends} {σ : St} {H : Hp} (Pv : Nat → St → Hp → Prop) (h0 : Pv 0 σ H) (hl : ∀ i σ H, i ≤ xs.length → Pv i σ H → SqL K H a xs)
  (hs : ∀ i x σ H, xs[i]? = some x → Pv i σ H → g x σ H fun σ2 H2 => tb { D with nx := Pv (i + 1), ct := Pv (i + 1), bk := D.nx } σ2 H2) (hd : ∀ σ H, Pv xs.length σ H → D.nx σ H) :
  ∃ W : Nat → Nat → St → Hp → Prop, (∃ m, W 0 m σ H) ∧ ∀ i m σ H, W i m σ H →
   ((Itl K a).stop i H ∧ D.nx σ H) ∨ ((Itl K a).go i H ∧ ∃ N : St → Hp → Prop, (∀ σ' H', N σ' H' → ∃ m', m' < m ∧ W (i + 1) m' σ' H') ∧ ∀ x H', (Itl K a).yld i H x H' → g x σ H' fun σ2 H2 => tb { D with nx := N, ct := N, bk := D.nx } σ2 H2) := by
 refine ⟨fun i m σ H => m = xs.length - i ∧ i ≤ xs.length ∧ Pv i σ H, ⟨xs.length, by simp, Nat.zero_le _, h0⟩, ?_⟩
 rintro i m σ H ⟨rfl, hi, p⟩
 have q := hl i σ H hi p
 by_cases hlt : i < xs.length
 ·refine .inr ⟨⟨xs, xs[i], q, by simp [hlt]⟩, Pv (i + 1), fun σ' H' p' => ⟨xs.length - (i + 1), by omega, rfl, hlt, p'⟩, fun x H' y => ?_⟩
  obtain ⟨e, y⟩ := y
  subst e
  exact hs i x σ _ (y xs q) p
 ·have e : i = xs.length := by omega
  subst e
  exact .inl ⟨⟨xs, q, Nat.le_refl _⟩, hd σ H p⟩
theorem for_tup {K : PySem.W.Frag} {a : Addr} {xs : List V} {g : TG} {tb : TS} {D : Ends} {σ : St} {H : Hp} (Pv : Nat → St → Hp → Prop) (h0 : Pv 0 σ H) (hl : ∀ i σ H, i ≤ xs.length → Pv i σ H → SqT K H a xs)
  (hs : ∀ i x σ H, xs[i]? = some x → Pv i σ H → g x σ H fun σ2 H2 => tb { D with nx := Pv (i + 1), ct := Pv (i + 1), bk := D.nx } σ2 H2) (hd : ∀ σ H, Pv xs.length σ H → D.nx σ H) :
  ∃ W : Nat → Nat → St → Hp → Prop, (∃ m, W 0 m σ H) ∧ ∀ i m σ H, W i m σ H →
   ((Itt K a).stop i H ∧ D.nx σ H) ∨ ((Itt K a).go i H ∧ ∃ N : St → Hp → Prop, (∀ σ' H', N σ' H' → ∃ m', m' < m ∧ W (i + 1) m' σ' H') ∧ ∀ x H', (Itt K a).yld i H x H' → g x σ H' fun σ2 H2 => tb { D with nx := N, ct := N, bk := D.nx } σ2 H2) := by
 refine ⟨fun i m σ H => m = xs.length - i ∧ i ≤ xs.length ∧ Pv i σ H, ⟨xs.length, by simp, Nat.zero_le _, h0⟩, ?_⟩
 rintro i m σ H ⟨rfl, hi, p⟩
 have q := hl i σ H hi p
 by_cases hlt : i < xs.length
 ·refine .inr ⟨⟨xs, xs[i], q, by simp [hlt]⟩, Pv (i + 1), fun σ' H' p' => ⟨xs.length - (i + 1), by omega, rfl, hlt, p'⟩, fun x H' y => ?_⟩
  obtain ⟨e, y⟩ := y
  subst e
  exact hs i x σ _ (y xs q) p
 ·have e : i = xs.length := by omega
  subst e
  exact .inl ⟨⟨xs, q, Nat.le_refl _⟩, hd σ H p⟩
theorem for_range {lo : Int} {n : Nat} {g : TG} {tb : TS} {D : Ends} {σ : St} {H : Hp} (Pv : Nat → St → Hp → Prop) (h0 : Pv 0 σ H)
  (hs : ∀ i σ H, i < n → Pv i σ H → g (.int (lo + i)) σ H fun σ2 H2 => tb { D with nx := Pv (i + 1), ct := Pv (i + 1), bk := D.nx } σ2 H2) (hd : ∀ σ H, Pv n σ H → D.nx σ H) :
  ∃ W : Nat → Nat → St → Hp → Prop, (∃ m, W 0 m σ H) ∧ ∀ i m σ H, W i m σ H →
   ((Itr lo n).stop i H ∧ D.nx σ H) ∨ ((Itr lo n).go i H ∧ ∃ N : St → Hp → Prop, (∀ σ' H', N σ' H' → ∃ m', m' < m ∧ W (i + 1) m' σ' H') ∧ ∀ x H', (Itr lo n).yld i H x H' → g x σ H' fun σ2 H2 => tb { D with nx := N, ct := N, bk := D.nx } σ2 H2) := by
 refine ⟨fun i m σ H => m = n - i ∧ i ≤ n ∧ Pv i σ H, ⟨n, by simp, Nat.zero_le _, h0⟩, ?_⟩
 rintro i m σ H ⟨rfl, hi, p⟩
 by_cases hlt : i < n
 ·refine .inr ⟨hlt, Pv (i + 1), fun σ' H' p' => ⟨n - (i + 1), by omega, rfl, hlt, p'⟩, fun x H' y => ?_⟩
  obtain ⟨e, y⟩ := y
  subst e y
  exact hs i σ _ hlt p
 ·have e : i = n := by omega
  subst e
  exact .inl ⟨Nat.le_refl _, hd σ H p⟩
end L2
namespace L2
open PySem PySem.Spec PyProof.Rows
noncomputable abbrev R2 := V → V → Hp → VK → Prop
noncomputable def OpR (X : Cx) (f : Value → Value → Sem Value) (r : R2) : Prop :=
 ∀ (pins : List (Addr × Obj)) (s : Shared) (σ : St) (H : Hp) (x y : V) (v u : Value) (Q : VK), Inv X pins σ H s → RelV x v → RelV y u → r x y H Q →
  wpAny (model X.prog X.w) X.A (f v u) (EP X pins σ Q) X.xe s
noncomputable def UnR (X : Cx) (f : Value → Sem Value) (r : V → Hp → VK → Prop) : Prop :=
 ∀ (pins : List (Addr × Obj)) (s : Shared) (σ : St) (H : Hp) (x : V) (v : Value) (Q : VK), Inv X pins σ H s → RelV x v → r x H Q →
  wpAny (model X.prog X.w) X.A (f v) (EP X pins σ Q) X.xe s
noncomputable def CallR (X : Cx) (f : Value) (r : List V → Hp → VK → Prop) : Prop :=
 ∀ (pins : List (Addr × Obj)) (s : Shared) (σ : St) (H : Hp) (xs : List V) (us : List Value) (Q : VK), Inv X pins σ H s → Vals xs us → r xs H Q →
  wpAny (model X.prog X.w) X.A (call f us) (EP X pins σ Q) X.xe s
noncomputable def tOp (r : R2) (ta tb : TE) : TE := fun σ H Q => ta σ H fun x H1 => tb σ H1 fun y H2 => r x y H2 Q
noncomputable def tUn (r : V → Hp → VK → Prop) (ta : TE) : TE := fun σ H Q => ta σ H fun x H1 => r x H1 Q
noncomputable def rI (C : Int → Int → Prop) (g : Int → Int → V) : R2 := fun x y H Q => ∃ i j, x = .int i ∧ y = .int j ∧ C i j ∧ Q (g i j) H
noncomputable def rI0 (g : Int → Int → V) : R2 := fun x y H Q => ∃ i j, x = .int i ∧ y = .int j ∧ Q (g i j) H
noncomputable def rU (g : Int → V) : V → Hp → VK → Prop := fun x H Q => ∃ i, x = .int i ∧ Q (g i) H
section
variable {X : Cx} {a b c : Expr} {ta tb tc : TE} {pos : Pos}
theorem binT (ha : PE X a ta) (hb : PE X b tb) {pins : List (Addr × Obj)} {s : Shared} {σ : St} {H : Hp} {R : V → V → Hp → Prop} (I : Inv X pins σ H s)
  (h : ta σ H fun x H1 => tb σ H1 fun y H2 => R x y H2) {Q : Value → Shared → Prop} {f : Value → Value → Sem Value}
  (hf : ∀ v u s2 x y H2, Inv X pins σ H2 s2 → RelV x v → RelV y u → R x y H2 → wpAny (model X.prog X.w) X.A (f v u) Q X.xe s2) :
  wpAny (model X.prog X.w) X.A (eval a X.env) (fun v s₁ => wpAny (model X.prog X.w) X.A (eval b X.env) (fun u s₂ => wpAny (model X.prog X.w) X.A (f v u) Q X.xe s₂) X.xe s₁) X.xe s := by
 refine thn (ha pins s σ H _ I h) fun v s1 ⟨x, H1, I1, r1, q1⟩ => ?_
 refine thn (hb pins s1 σ H1 _ I1 q1) fun u s2 ⟨y, H2, I2, r2, q2⟩ => ?_
 exact hf v u s2 x y H2 I2 r1 r2 q2
theorem pe_op {op : Operator} {r : R2} (ho : OpR X (binaryOp op) r) (ha : PE X a ta) (hb : PE X b tb) : PE X (.BinOp a op b pos) (tOp r ta tb) := by
 intro pins s σ H Q I h
 exact wpAny_BinOp (binT ha hb I h fun v u s2 x y H2 I2 rx ry q => ho pins s2 σ H2 x y v u Q I2 rx ry q)
theorem pe_un {op : UnaryOp} {r : V → Hp → VK → Prop} (ho : UnR X (unaryOp op) r) (ha : PE X a ta) : PE X (.UnaryOp op a pos) (tUn r ta) := by
 intro pins s σ H Q I h
 exact UnaryOp_ (thn (ha pins s σ H _ I h) fun v s1 ⟨x, H1, I1, r1, q1⟩ => ho pins s1 σ H1 x v Q I1 r1 q1)
theorem opI {f : Value → Value → Sem Value} {C : Int → Int → Prop} {g : Int → Int → Int}
  (rule : ∀ (i j : Int) (t u : Tok) (s : Shared) (Q : Value → Shared → Prop) (E : Value → Shared → Prop), C i j → Q (.int (g i j) s.toks) { s with toks := s.toks + 1 } → wpAny (model X.prog X.w) X.A (f (.int i t) (.int j u)) Q E s) :
  OpR X f (rI C fun i j => .int (g i j)) := by
 intro pins s σ H x y v u Q I rx ry h
 obtain ⟨i, j, rfl, rfl, hc, q⟩ := h
 obtain ⟨t, rfl⟩ := rx
 obtain ⟨t', rfl⟩ := ry
 exact rule i j t t' s _ _ hc ⟨.int (g i j), H, I.tok _, ⟨_, rfl⟩, q⟩
theorem opI0 {f : Value → Value → Sem Value} {g : Int → Int → Int}
  (rule : ∀ (i j : Int) (t u : Tok) (s : Shared) (Q : Value → Shared → Prop) (E : Value → Shared → Prop), Q (.int (g i j) s.toks) { s with toks := s.toks + 1 } → wpAny (model X.prog X.w) X.A (f (.int i t) (.int j u)) Q E s) :
  OpR X f (rI0 fun i j => .int (g i j)) := by
 intro pins s σ H x y v u Q I rx ry h
 obtain ⟨i, j, rfl, rfl, q⟩ := h
 obtain ⟨t, rfl⟩ := rx
 obtain ⟨t', rfl⟩ := ry
 exact rule i j t t' s _ _ ⟨.int (g i j), H, I.tok _, ⟨_, rfl⟩, q⟩
theorem opB0 {f : Value → Value → Sem Value} {g : Int → Int → Bool}
  (rule : ∀ (i j : Int) (t u : Tok) (s : Shared) (Q : Value → Shared → Prop) (E : Value → Shared → Prop), Q (.bool (g i j)) s → wpAny (model X.prog X.w) X.A (f (.int i t) (.int j u)) Q E s) :
  OpR X f (rI0 fun i j => .bl (g i j)) := by
 intro pins s σ H x y v u Q I rx ry h
 obtain ⟨i, j, rfl, rfl, q⟩ := h
 obtain ⟨t, rfl⟩ := rx
 obtain ⟨t', rfl⟩ := ry
 exact rule i j t t' s _ _ ⟨.bl (g i j), H, I, rfl, q⟩
noncomputable def CDiv (i j : Int) : Prop := 0 < j ∧ j < 1073741824
noncomputable def CMul (i j : Int) : Prop := (-(2 ^ 64) < i ∧ i < 2 ^ 64) ∨ (-(2 ^ 64) < j ∧ j < 2 ^ 64)
theorem CMul.ok {i j : Int} (h : CMul i j) : IntMulOk i j := by
 rcases h with ⟨h1, h2⟩ | ⟨h1, h2⟩
 ·exact .of_left (intBits_le_64 h1 h2)
 ·exact .of_right (intBits_le_64 h1 h2)
theorem two_pow_nn (k : Nat) : (0 : Int) ≤ 2 ^ k := by
 rw [two_pow_cast]
 exact Int.natCast_nonneg _
theorem op_add : OpR X (binaryOp .Add) (rI0 fun i j => .int (i + j)) := opI0 fun _ _ _ _ _ _ _ q => add_int q
theorem op_sub : OpR X (binaryOp .Sub) (rI0 fun i j => .int (i - j)) := opI0 fun _ _ _ _ _ _ _ q => sub_int q
theorem op_mul : OpR X (binaryOp .Mult) (rI CMul fun i j => .int (i * j)) := opI fun _ _ _ _ _ _ _ hc q => mul_int q hc.ok
theorem op_fdiv : OpR X (binaryOp .FloorDiv) (rI CDiv fun i j => .int (i / j)) := opI fun i j _ _ _ _ _ hc q => by
 have h1 : (0 : Int) < j := hc.1
 have h2 : j < 1073741824 := hc.2
 exact floordiv_int (by omega) (by rw [Int.fdiv_eq_ediv_of_nonneg i (by omega)]; exact q) (.inl (PyProof.noPylong_small (by omega)))
theorem op_mod : OpR X (binaryOp .Mod) (rI (fun _ j => 0 < j) fun i j => .int (i % j)) := opI fun i j _ _ _ _ _ hc q => by
 have h1 : (0 : Int) < j := hc
 exact mod_int' (by omega) (by rw [Int.fmod_eq_emod_of_nonneg i (by omega)]; exact q)
theorem op_shr : OpR X (binaryOp .RShift) (rI (fun _ j => 0 ≤ j) fun i j => .int (i / 2 ^ j.toNat)) := opI fun i j _ _ _ _ _ hc q =>
 rshift_int hc (by rw [Int.fdiv_eq_ediv_of_nonneg i (two_pow_nn _)]; exact q)
theorem unI {f : Value → Sem Value} {g : Int → Int}
  (rule : ∀ (i : Int) (t : Tok) (s : Shared) (Q : Value → Shared → Prop) (E : Value → Shared → Prop), Q (.int (g i) s.toks) { s with toks := s.toks + 1 } → wpAny (model X.prog X.w) X.A (f (.int i t)) Q E s) :
  UnR X f (rU fun i => .int (g i)) := by
 intro pins s σ H x v Q I rx h
 obtain ⟨i, rfl, q⟩ := h
 obtain ⟨t, rfl⟩ := rx
 exact rule i t s _ _ ⟨.int (g i), H, I.tok _, ⟨_, rfl⟩, q⟩
theorem un_neg : UnR X (unaryOp .USub) (rU fun i => .int (-i)) := unI fun _ _ _ _ _ q => neg_int q
end
noncomputable def scal : V → V → Bool
 | .non, .non => true | .non, .int _ => true | .int _, .non => true | .non, .bl _ => true | .bl _, .non => true | .non, .str _ => true | .str _, .non => true
 | .int _, .int _ => true | .bl _, .bl _ => true | .str _, .str _ => true | .byt _, .byt _ => true
 | .int _, .str _ => true | .str _, .int _ => true | .bl _, .str _ => true | .str _, .bl _ => true
 | _, _ => false
noncomputable def rEq : R2 := fun x y H Q => scal x y = true ∧ Q (.bl (decide (x = y))) H
noncomputable def rNe : R2 := fun x y H Q => scal x y = true ∧ Q (.bl (!decide (x = y))) H
theorem dec_int {i j : Int} : decide (V.int i = V.int j) = (i == j) := by
 rw [Bool.eq_iff_iff]
 simp
theorem dec_bl {i j : Bool} : decide (V.bl i = V.bl j) = (i == j) := by
 rw [Bool.eq_iff_iff]
 simp
theorem dec_str {i j : Str} : decide (V.str i = V.str j) = (i == j) := by
 rw [Bool.eq_iff_iff]
 simp
theorem dec_byt {i j : Array UInt8} : decide (V.byt i = V.byt j) = (i.toList == j.toList) := by
 rw [Bool.eq_iff_iff]
 cases i
 cases j
 simp
section
variable {X : Cx} {a b c : Expr} {ta tb tc : TE} {pos : Pos}
theorem fin_bl {pins : List (Addr × Obj)} {σ : St} {H : Hp} {s : Shared} {Q : VK} {k k' : Bool} (I : Inv X pins σ H s) (q : Q (.bl k) H) (e : k = k') : EP X pins σ Q (.bool k') s := by
 subst e
 exact ⟨.bl k, H, I, rfl, q⟩
theorem op_eq : OpR X (compareOp .Eq) rEq := by
 intro pins s σ H x y v u Q I rx ry h
 obtain ⟨hs, q⟩ := h
 cases x with
 | non =>
  cases rx
  cases y with
  | non => cases ry; exact PySem.EqNone.eq_none_none (fin_bl I q (by simp))
  | bl j => cases ry; exact PySem.EqNone.eq_none_bool (fin_bl I q (by simp))
  | int j => obtain ⟨t', rfl⟩ := ry; exact PySem.EqNone.eq_none_int (fin_bl I q (by simp))
  | str j => obtain ⟨t', rfl⟩ := ry; exact PySem.EqNone.eq_none_str (fin_bl I q (by simp))
  | _ => exact absurd (show false = true from hs) Bool.false_ne_true
 | bl i =>
  cases rx
  cases y with
  | non => cases ry; exact PySem.EqNone.eq_bool_none (fin_bl I q (by simp))
  | bl j => cases ry; exact eq_bool (fin_bl I q dec_bl)
  | str j => obtain ⟨t', rfl⟩ := ry; exact PySem.EqMixed.eq_bool_str (fin_bl I q (by simp))
  | _ => exact absurd (show false = true from hs) Bool.false_ne_true
 | int i =>
  obtain ⟨t, rfl⟩ := rx
  cases y with
  | non => cases ry; exact PySem.EqNone.eq_int_none (fin_bl I q (by simp))
  | int j => obtain ⟨t', rfl⟩ := ry; exact eq_int (fin_bl I q dec_int)
  | str j => obtain ⟨t', rfl⟩ := ry; exact PySem.EqMixed.eq_int_str (fin_bl I q (by simp))
  | _ => exact absurd (show false = true from hs) Bool.false_ne_true
 | str i =>
  obtain ⟨t, rfl⟩ := rx
  cases y with
  | non => cases ry; exact PySem.EqNone.eq_str_none (fin_bl I q (by simp))
  | bl j => cases ry; exact PySem.EqMixed.eq_str_bool (fin_bl I q (by simp))
  | int j => obtain ⟨t', rfl⟩ := ry; exact PySem.EqMixed.eq_str_int (fin_bl I q (by simp))
  | str j => obtain ⟨t', rfl⟩ := ry; exact eq_str (fin_bl I q dec_str)
  | _ => exact absurd (show false = true from hs) Bool.false_ne_true
 | byt i =>
  obtain ⟨t, rfl⟩ := rx
  cases y with
  | byt j => obtain ⟨t', rfl⟩ := ry; exact PySem.W.eq_bytes (fin_bl I q dec_byt)
  | _ => exact absurd (show false = true from hs) Bool.false_ne_true
 | _ => cases y <;> exact absurd (show false = true from hs) Bool.false_ne_true
theorem op_ne : OpR X (compareOp .NotEq) rNe := by
 intro pins s σ H x y v u Q I rx ry h
 obtain ⟨hs, q⟩ := h
 cases x with
 | non =>
  cases rx
  cases y with
  | non => cases ry; exact PySem.EqNone.ne_none_none (fin_bl I q (by simp))
  | bl j => cases ry; exact PySem.EqNone.ne_none_bool (fin_bl I q (by simp))
  | int j => obtain ⟨t', rfl⟩ := ry; exact PySem.EqNone.ne_none_int (fin_bl I q (by simp))
  | str j => obtain ⟨t', rfl⟩ := ry; exact PySem.EqNone.ne_none_str (fin_bl I q (by simp))
  | _ => exact absurd (show false = true from hs) Bool.false_ne_true
 | bl i =>
  cases rx
  cases y with
  | non => cases ry; exact PySem.EqNone.ne_bool_none (fin_bl I q (by simp))
  | bl j => cases ry; exact ne_bool (fin_bl I q (congrArg not dec_bl))
  | str j => obtain ⟨t', rfl⟩ := ry; exact PySem.EqMixed.ne_bool_str (fin_bl I q (by simp))
  | _ => exact absurd (show false = true from hs) Bool.false_ne_true
 | int i =>
  obtain ⟨t, rfl⟩ := rx
  cases y with
  | non => cases ry; exact PySem.EqNone.ne_int_none (fin_bl I q (by simp))
  | int j => obtain ⟨t', rfl⟩ := ry; exact ne_int (fin_bl I q (congrArg not dec_int))
  | str j => obtain ⟨t', rfl⟩ := ry; exact PySem.EqMixed.ne_int_str (fin_bl I q (by simp))
  | _ => exact absurd (show false = true from hs) Bool.false_ne_true
 | str i =>
  obtain ⟨t, rfl⟩ := rx
  cases y with
  | non => cases ry; exact PySem.EqNone.ne_str_none (fin_bl I q (by simp))
  | bl j => cases ry; exact PySem.EqMixed.ne_str_bool (fin_bl I q (by simp))
  | int j => obtain ⟨t', rfl⟩ := ry; exact PySem.EqMixed.ne_str_int (fin_bl I q (by simp))
  | str j => obtain ⟨t', rfl⟩ := ry; exact ne_str (fin_bl I q (congrArg not dec_str))
  | _ => exact absurd (show false = true from hs) Bool.false_ne_true
 | byt i =>
  obtain ⟨t, rfl⟩ := rx
  cases y with
  | byt j => obtain ⟨t', rfl⟩ := ry; exact PySem.W.ne_bytes (fin_bl I q (congrArg not dec_byt))
  | _ => exact absurd (show false = true from hs) Bool.false_ne_true
 | _ => cases y <;> exact absurd (show false = true from hs) Bool.false_ne_true
theorem op_lt : OpR X (compareOp .Lt) (rI0 fun i j => .bl (decide (i < j))) := opB0 fun _ _ _ _ _ _ _ q => lt_int q
theorem op_le : OpR X (compareOp .LtE) (rI0 fun i j => .bl (decide (i ≤ j))) := opB0 fun _ _ _ _ _ _ _ q => le_int q
theorem op_gt : OpR X (compareOp .Gt) (rI0 fun i j => .bl (decide (j < i))) := opB0 fun _ _ _ _ _ _ _ q => gt_int q
theorem op_ge : OpR X (compareOp .GtE) (rI0 fun i j => .bl (decide (j ≤ i))) := opB0 fun _ _ _ _ _ _ _ q => ge_int q
theorem op_in_str : OpR X (compareOp .In) (fun x y H Q => ∃ i j, x = .str i ∧ y = .str j ∧ Q (.bl (!(Builtin.Str.occurrences j i 0 j.length 1).isEmpty)) H) := by
 intro pins s σ H x y v u Q I rx ry h
 obtain ⟨i, j, rfl, rfl, q⟩ := h
 obtain ⟨t, rfl⟩ := rx
 obtain ⟨t', rfl⟩ := ry
 exact in_str (fin_bl I q rfl)
theorem op_isN : OpR X (compareOp .Is) (fun x y H Q => y = .non ∧ Q (.bl (decide (x = .non))) H) := by
 intro pins s σ H x y v u Q I rx ry h
 obtain ⟨rfl, q⟩ := h
 cases ry
 refine is_none_gen (fin_bl I q ?_)
 cases x <;> first
  | (cases rx; rfl)
  | (obtain ⟨t, rfl⟩ := rx; rfl)
theorem OpR.or {f : Value → Value → Sem Value} {r r' : R2} (h : OpR X f r) (h' : OpR X f r') : OpR X f (fun x y H Q => r x y H Q ∨ r' x y H Q) := by
 intro pins s σ H x y v u Q I rx ry q
 rcases q with q | q
 ·exact h pins s σ H x y v u Q I rx ry q
 ·exact h' pins s σ H x y v u Q I rx ry q
theorem nomark (b : Expr) {op : CmpOp} (h : op ≠ .In := by decide) (h2 : op ≠ .NotIn := by decide) : behindInMarks op b = false := by
 have e1 : (op == CmpOp.In) = false := by cases op <;> first | rfl | exact absurd rfl h
 have e2 : (op == CmpOp.NotIn) = false := by cases op <;> first | rfl | exact absurd rfl h2
 cases b <;> simp [behindInMarks, e1, e2]
theorem pe_cmpR {op : CmpOp} {r : R2} (ho : OpR X (compareOp op) r) (ha : PE X a ta) (hb : PE X b tb) (hm : behindInMarks op b = false) : PE X (.Compare a [op] [b] pos) (tOp r ta tb) := by
 intro pins s σ H Q I h
 exact wpAny_Compare1 (binT ha hb I h fun v u s2 x y H2 I2 rx ry q => ho pins s2 σ H2 x y v u Q I2 rx ry q) hm
noncomputable def tTest (t : TE) : TT := fun σ H Q => t σ H fun x H' => ∃ k, x = .bl k ∧ Q k H'
theorem pt_cmpR {op : CmpOp} {r : R2} (ho : OpR X (compareOp op) r) (ha : PE X a ta) (hb : PE X b tb) (hm : behindInMarks op b = false) : PT X (.Compare a [op] [b] pos) (tTest (tOp r ta tb)) := by
 intro pins s σ H Q I h
 refine wpAny_isTrue_Compare1 (thn (ha pins s σ H _ I h) fun v s1 ⟨x, H1, I1, r1, q1⟩ => thn (hb pins s1 σ H1 _ I1 q1) fun u s2 ⟨y, H2, I2, r2, q2⟩ =>
  thn (ho pins s2 σ H2 x y v u _ I2 r1 r2 q2) fun c s3 ⟨z, H3, I3, r3, k, e, q3⟩ => ?_) hm
 subst e
 cases r3
 exact wpAny_truthy_bool ⟨H3, I3, q3⟩
noncomputable def tChain (r r' : R2) (ta tb tc : TE) : TE := fun σ H Q => ta σ H fun x H1 => tb σ H1 fun y H2 => r x y H2 fun z H3 => ∃ k, z = .bl k ∧
 (if k = true then tc σ H3 fun w' H4 => r' y w' H4 Q else Q (.bl false) H3)
theorem pe_chain {op op' : CmpOp} {r r' : R2} (ho : OpR X (compareOp op) r) (ho' : OpR X (compareOp op') r') (ha : PE X a ta) (hb : PE X b tb) (hc : PE X c tc)
  (hm : lastMarks [op, op'] [b, c] = false := by with_unfolding_all rfl) : PE X (.Compare a [op, op'] [b, c] pos) (tChain r r' ta tb tc) := by
 intro pins s σ H Q I h
 refine Compare_chain (thn (ha pins s σ H _ I h) fun v s1 ⟨x, H1, I1, r1, q1⟩ => chain_link (thn (hb pins s1 σ H1 _ I1 q1) fun u s2 ⟨y, H2, I2, r2, q2⟩ =>
  thn (ho pins s2 σ H2 x y v u _ I2 r1 r2 q2) fun d s3 ⟨z, H3, I3, r3, k, e, q3⟩ => ?_)) hm
 subst e
 cases r3
 refine wpAny_truthy_bool ?_
 cases k with
 | false => exact ite_ff ⟨.bl false, H3, I3, rfl, q3⟩
 | true => exact ite_tt (chain_last (thn (hc pins s3 σ H3 _ I3 q3) fun w' s4 ⟨z', H4, I4, r4, q4⟩ => ho' pins s4 σ H4 y z' u w' Q I4 r2 r4 q4))
theorem line63 : (sizeLine : Nat) < 2 ^ 63 := by rw [sizeLine_eq]; decide
theorem op_add_str : OpR X (binaryOp .Add) (fun x y H Q => ∃ i j, x = .str i ∧ y = .str j ∧ i.length + j.length ≤ sizeLine ∧ Q (.str (i ++ j)) H) := by
 intro pins s σ H x y v u Q I rx ry h
 obtain ⟨i, j, rfl, rfl, hz, q⟩ := h
 obtain ⟨t, rfl⟩ := rx
 obtain ⟨t', rfl⟩ := ry
 exact add_str (fun t' tk => ⟨.str (i ++ j), H, I.tok _, ⟨_, rfl⟩, q⟩) hz
theorem vals1 {x : V} {us : List Value} (r : Vals [x] us) : ∃ u, us = [u] ∧ RelV x u := by
 cases r with
 | cons r1 r2 => cases r2; exact ⟨_, rfl, r1⟩
theorem vals2 {x y : V} {us : List Value} (r : Vals [x, y] us) : ∃ u w', us = [u, w'] ∧ RelV x u ∧ RelV y w' := by
 cases r with
 | cons r1 r2 =>
  cases r2 with
  | cons r3 r4 => cases r4; exact ⟨_, _, rfl, r1, r3⟩
theorem call_max2 (hc : X.calm = true) : CallR X (.builtin "max") (fun xs H Q => ∃ i j, xs = [.int i, .int j] ∧ Q (.int (if j > i then j else i)) H) := by
 intro pins s σ H xs us Q I r h
 obtain ⟨i, j, rfl, q⟩ := h
 obtain ⟨u, w', rfl, ⟨t, rfl⟩, ⟨t', rfl⟩⟩ := vals2 r
 refine max_two_ints (I.ok.hd hc) fun h' tk k => ⟨_, H, I.kept k, ?_, q⟩
 by_cases hj : j > i
 ·rw [if_pos hj, if_pos hj]; exact ⟨_, rfl⟩
 ·rw [if_neg hj, if_neg hj]; exact ⟨_, rfl⟩
theorem call_int1 : CallR X (.type "int") (fun xs H Q => (∃ i, xs = [.int i] ∧ Q (.int i) H) ∨ ∃ k, xs = [.bl k] ∧ Q (.int (if k then 1 else 0)) H) := by
 intro pins s σ H xs us Q I r h
 rcases h with ⟨i, rfl, q⟩ | ⟨k, rfl, q⟩
 ·obtain ⟨u, rfl, t, rfl⟩ := vals1 r
  exact call_int_int ⟨.int i, H, I, ⟨_, rfl⟩, q⟩
 ·obtain ⟨u, rfl, r1⟩ := vals1 r
  cases r1
  exact call_int_bool ⟨.int (if k then 1 else 0), H, I.tok _, ⟨_, rfl⟩, q⟩
end
end L2
namespace L2
open PySem PySem.Spec PyProof.Rows
structure ObjM (h : Heap) (x dx C : Addr) (mA : Str → Option Value) : Prop where
 obj : h.get? x = some (PySem.W.instObj C dx)
 ns : h.Ns1 dx mA
 ne : dx ≠ x
theorem lookIn_ns {h : Heap} {dx : Addr} {mA : Str → Option Value} (n : h.Ns1 dx mA) : ∃ od, h.get? dx = some od ∧ ∀ name, PySem.W.lookIn name od = some (mA name) := by
 obtain ⟨o, es, ep, ho, hd, hk, _, hm⟩ := n
 refine ⟨o, ho, fun name => ?_⟩
 have e := hm name
 unfold nsFind findBy at e
 rw [← Array.find?_toList] at e
 unfold PySem.W.lookIn
 rw [hd]
 dsimp only
 split
 ·rename_i y q
  rw [q] at e
  exact congrArg some e
 ·rename_i q
  rw [q] at e
  have a : es.toList.any (·.refKey) = false := by
   rw [List.any_eq_false]
   intro y hy
   obtain ⟨z, t, hkey⟩ := hk y (Array.mem_toList_iff.mp hy)
   simp [DictEntry.refKey, hkey]
  have a' : ¬ es.toList.any (·.refKey) = true := by rw [a]; exact Bool.false_ne_true
  rw [if_neg a']
  exact congrArg some e
theorem ObjM.look {h : Heap} {x dx C : Addr} {mA : Str → Option Value} (I : ObjM h x dx C mA) : ∃ od, PySem.W.InstAt h x (PySem.W.instObj C dx) C (some od) ∧ ∀ name, PySem.W.lookIn name od = some (mA name) :=
 let ⟨od, ho, hl⟩ := lookIn_ns I.ns
 ⟨od, ⟨I.obj, rfl, rfl, ho⟩, hl⟩
section
variable {prog : Program} {w : World} {A : Around} {E : Value → Shared → Prop} {s : Shared} {K : PySem.W.Frag} {x dx C f : Addr} {mA : Str → Option Value} {name : Str} {v : Value}
theorem get_map {expr : Bool} {Q : Value → Shared → Prop} (X : K.In s.heap) (I : ObjM s.heap x dx C mA) (hg : PySem.W.plainGet K C name = true) (hh : PySem.W.hasDictIn K C = true)
  (ha : PySem.W.findIn K (.ref C) name = some none) (hv : mA name = some v) (hv' : PySem.W.handedIn v = true) (h : Q v { s with toks := s.toks + 1 }) :
  wpAny (model prog w) A (getAttr (.ref x) name expr) Q E s := by
 obtain ⟨od, J, hl⟩ := I.look
 exact PySem.W.get_value X J (PySem.W.plainGet_of hg).1 (PySem.W.findObj_own hh ha rfl (by rw [hl, hv])) hv' h
theorem set_map {ns : List Str} {Q : Unit → Shared → Prop} (X : K.In s.heap) (I : ObjM s.heap x dx C mA)
  (hs : PySem.W.findIn K (.ref C) "__setattr__" = some (some (.builtin "object.__setattr__"))) (hp : PySem.W.plainOver K C = true) (ht : PySem.W.takerIn K C name = some none) (hh : PySem.W.hasDictIn K C = true)
  (hw : PySem.Within mA ns) (hsz : ns.length ≤ sizeLine)
  (h : ∀ h', ObjM h' x dx C (fun y => if y = name then some v else mA y) → Heap.SameBut dx s.heap h' → Q () { s with heap := h', toks := s.toks + 2 }) :
  wpAny (model prog w) A (setAttr (.ref x) name v) Q E s := by
 obtain ⟨od, J, hl⟩ := I.look
 refine PySem.W.set_plain X J hs (PySem.W.osa_open (s := { s with toks := s.toks + 1 }) (r := none) X J hp ht fun b => ?_)
 obtain ⟨cd, hc, hd'⟩ := PySem.W.any_some hh
 have hx : s.heap.get? x = some ⟨.ref C, some dx, .plain, #[]⟩ := I.obj
 refine wpAny_bind (wpAny_pure (wpAny_bind (wpAny_bind (wpAny_loadPart hx (wpAny_bind (PySem.W.Looks.here (s := { s with toks := s.toks + 1 }) (PySem.W.looks_clsIn X hc) ?_))))))
 rw [hd']
 refine wpAny_pure (a := some dx) (wpAny_bind (wpAny_pure (wpAny_bind ?_)))
 refine wpAny_nsSet1 (s := { s with toks := s.toks + 1 }) I.ns fun h' hn2 hs2 => ?_
 obtain ⟨oD, esD, epD, hoD, hdD, hcD⟩ := hn2.count (PySem.Within.cons name v hw)
 refine wpAny_bind (wpAny_lookBehind hoD (by rw [hdD]; exact pastItsLine_dict (Nat.le_trans hcD (by rw [List.length_cons]; omega))) ?_)
 exact wpAny_pure (h _ ⟨(hs2.2 _ (Ne.symm I.ne)).trans I.obj, hn2, I.ne⟩ hs2)
theorem make_map {R : Result → Shared → Prop} {vs : List Value} {kw : List (Str × Value)} (X : K.In s.heap) (hm : PySem.W.makesIn K C = true)
  (hi : PySem.W.findIn K (.ref C) "__init__" = some (some (.ref f))) (hf : PySem.W.typeIn K (.ref f) = some (.type "function"))
  (h : codeAny (model prog w) (A.under (.builtin "type.__call__" ⟨.ref C :: vs, kw⟩)) (.call (.ref f) ⟨.ref (s.heap.objs.size + 1) :: vs, kw⟩) (PySem.W.InitBack (s.heap.objs.size + 1) R)
   { s with heap := (s.heap.push PySem.W.emptyDict).push (PySem.W.instObj C s.heap.objs.size) }) :
  codeAny (model prog w) A (.call (.ref C) ⟨vs, kw⟩) R s := by
 obtain ⟨hh, g, d, t, os⟩ := s
 exact PySem.W.make_core (PySem.W.makes_of X hm) (PySem.W.looks_findIn X hi) (fun self => PySem.W.bind_fn X self hf) (.inl rfl) h
end
noncomputable def putF (f : Str) (v : V) : List (Str × V) → List (Str × V)
 | [] => [(f, v)]
 | (g, x) :: r => if g = f then (g, v) :: r else (g, x) :: putF f v r
theorem lookup_putF (f g : Str) (v : V) : ∀ fs : List (Str × V), (putF f v fs).lookup g = if g = f then some v else fs.lookup g
 | [] => by
  show List.lookup g [(f, v)] = _
  by_cases h : g = f
  ·have hb : (g == f) = true := beq_iff_eq.mpr h
   simp only [List.lookup, hb, if_pos h]
  ·have hb : (g == f) = false := beq_eq_false_iff_ne.mpr h
   simp only [List.lookup, hb, if_neg h]
 | (k, x) :: r => by
  have ih := lookup_putF f g v r
  rw [show putF f v ((k, x) :: r) = (if k = f then (k, v) :: r else (k, x) :: putF f v r) from rfl]
  by_cases hk : k = f
  ·rw [if_pos hk]
   by_cases h : g = k
   ·have hb : (g == k) = true := beq_iff_eq.mpr h
    simp only [List.lookup, hb, if_pos (h.trans hk)]
   ·have hb : (g == k) = false := beq_eq_false_iff_ne.mpr h
    simp only [List.lookup, hb, if_neg (fun e : g = f => h (e.trans hk.symm))]
  ·rw [if_neg hk]
   by_cases h : g = k
   ·have hb : (g == k) = true := beq_iff_eq.mpr h
    simp only [List.lookup, hb, if_neg (fun e : g = f => hk (h.symm.trans e))]
   ·have hb : (g == k) = false := beq_eq_false_iff_ne.mpr h
    simp only [List.lookup, hb]
    exact ih
theorem keys_putF (f : Str) (v : V) : ∀ fs : List (Str × V), f ∈ (putF f v fs).map (·.1) ∧ ∀ g, g ∈ fs.map (·.1) → g ∈ (putF f v fs).map (·.1)
 | [] => ⟨by simp [putF], fun g h => by simp at h⟩
 | (k, x) :: r => by
  obtain ⟨i1, i2⟩ := keys_putF f v r
  rw [show putF f v ((k, x) :: r) = (if k = f then (k, v) :: r else (k, x) :: putF f v r) from rfl]
  by_cases hk : k = f
  ·rw [if_pos hk]
   subst hk
   exact ⟨by simp, fun g h => by simpa using h⟩
  ·rw [if_neg hk]
   refine ⟨?_, fun g h => ?_⟩
   ·rw [List.map_cons]
    exact List.mem_cons_of_mem _ i1
   ·rw [List.map_cons] at h ⊢
    rcases List.mem_cons.mp h with e | e
    ·exact List.mem_cons.mpr (.inl e)
    ·exact List.mem_cons_of_mem _ (i2 g e)
theorem length_putF (f : Str) (v : V) : ∀ fs : List (Str × V), (putF f v fs).length ≤ fs.length + 1
 | [] => by simp [putF]
 | (k, x) :: r => by
  have ih := length_putF f v r
  rw [show putF f v ((k, x) :: r) = (if k = f then (k, v) :: r else (k, x) :: putF f v r) from rfl]
  by_cases hk : k = f
  ·rw [if_pos hk, List.length_cons, List.length_cons]; omega
  ·rw [if_neg hk, List.length_cons, List.length_cons]; omega
theorem RelO.some_of {v : V} {o : Option Value} (r : RelO (some v) o) : ∃ u, o = some u ∧ RelV v u := by
 cases o with
 | none => exact (show False from r).elim
 | some u => exact ⟨u, rfl, r⟩
theorem handed_of {v : V} {u : Value} (r : RelV v u) : PySem.W.handedIn u = true := by
 cases v with
 | non => cases (show u = Value.none from r); rfl
 | bl b => cases (show u = Value.bool b from r); rfl
 | int i => obtain ⟨t, e⟩ := (show ∃ t, u = Value.int i t from r); cases e; rfl
 | str x => obtain ⟨t, e⟩ := (show ∃ t, u = Value.str x t from r); cases e; rfl
 | byt b => obtain ⟨t, e⟩ := (show ∃ t, u = Value.bytes b t from r); cases e; rfl
 | flt b => obtain ⟨t, e⟩ := (show ∃ t, u = Value.float b t from r); cases e; rfl
 | ref a => cases (show u = Value.ref a from r); rfl
 | ty n => cases (show u = Value.type n from r); rfl
section
variable {P : Program} {w : World} {H H' : Hp} {h h' : Heap} {a C dx : Addr} {fs fs' : List (Str × V)}
theorem ins_get (hok : HOk P w H h) (e : H a = some (.ins C dx fs)) : ∃ mA, ObjM h a dx C mA ∧ (∀ f, RelO (fs.lookup f) (mA f)) ∧ PySem.Within mA (fs.map (·.1)) ∧ fs.length ≤ 1000 ∧ H dx = some (.own a) := by
 obtain ⟨d, z, ne, ob, mA, n, r, q⟩ := (show ObjOk P w H h a (.ins C dx fs) from hok a _ e)
 exact ⟨mA, ⟨ob, n, ne⟩, r, q, z, d⟩
end
structure Cls (K : PySem.W.Frag) (C : Addr) : Prop where
 pg : PySem.W.plainGet K C Str.empty = true
 hd : PySem.W.hasDictIn K C = true
 po : PySem.W.plainOver K C = true
 sa : PySem.W.findIn K (.ref C) "__setattr__" = some (some (.builtin "object.__setattr__"))
theorem Cls.get {K : PySem.W.Frag} {C : Addr} (c : Cls K C) (f : Str) : PySem.W.plainGet K C f = true := c.pg
noncomputable def NoAttr (K : PySem.W.Frag) (C : Addr) (f : Str) : Prop := PySem.W.findIn K (.ref C) f = some none
theorem NoAttr.taker {K : PySem.W.Frag} {C : Addr} {f : Str} (n : NoAttr K C f) : PySem.W.takerIn K C f = some none := by
 unfold PySem.W.takerIn
 rw [show PySem.W.findIn K (.ref C) f = some none from n]
 rfl
structure Meth (K : PySem.W.Frag) (C : Addr) (m : Str) (f : Addr) : Prop where
 at_ : PySem.W.findIn K (.ref C) m = some (some (.ref f))
 fn : PySem.W.isFn K (.ref f) = true
 kp : PySem.W.keepIn K (.ref f) = true
section
variable {X : Cx} {pins : List (Addr × Obj)} {σ : St} {H : Hp} {s : Shared} {a C dx : Addr} {fs : List (Str × V)} {f : Str} {v : V} {A : Around} {E : Value → Shared → Prop}
theorem getattr_ok {b : Bool} {Q : Value → Shared → Prop} (I : Inv X pins σ H s) (e : H a = some (.ins C dx fs)) (c : Cls X.K C) (n : NoAttr X.K C f) (l : fs.lookup f = some v)
  (h : ∀ u s', Inv X pins σ H s' → RelV v u → Q u s') : wpAny (model X.prog X.w) A (getAttr (.ref a) f b) Q E s := by
 obtain ⟨mA, O, r, _, _, _⟩ := ins_get I.hok e
 obtain ⟨u, hu, ru⟩ := RelO.some_of (v := v) (o := mA f) (by rw [← l]; exact r f)
 exact get_map I.kIn O (c.get f) c.hd n hu (handed_of ru) (h u _ (I.tok _) ru)
theorem setattr_ok {y : V} {u : Value} {Q : Unit → Shared → Prop} (I : Inv X pins σ H s) (e : H a = some (.ins C dx fs)) (c : Cls X.K C) (n : NoAttr X.K C f) (hl : fs.length < 1000) (ry : RelV y u)
  (h : ∀ s', Inv X pins σ (upd H a (.ins C dx (putF f y fs))) s' → Q () s') : wpAny (model X.prog X.w) A (setAttr (.ref a) f u) Q E s := by
 obtain ⟨mA, O, r, wi, _, ho⟩ := ins_get I.hok e
 have hz : (fs.map (·.1)).length ≤ sizeLine := by rw [List.length_map, sizeLine_eq]; omega
 refine set_map I.kIn O c.sa c.po n.taker c.hd wi hz fun h' O' sb => h _ ?_
 have hd : ∃ o, h'.get? dx = some o := let ⟨o, _, _, e', _⟩ := O'.ns; ⟨o, e'⟩
 refine I.write (x := a) (e := dx) (by rw [e]; exact True.intro) (.inr ho) (fun b q hb z => (sb.2 b hb).trans z) hd ?_
 refine ⟨by rw [upd_ne O.ne]; exact ho, ?_, O.ne, O'.obj, _, O'.ns, fun g => ?_, fun g hg => ?_⟩
 ·have := length_putF f y fs; omega
 ·show RelO ((putF f y fs).lookup g) (if g = f then some u else mA g)
  rw [lookup_putF]
  by_cases q : g = f
  ·rw [if_pos q, if_pos q]; exact ry
  ·rw [if_neg q, if_neg q]; exact r g
 ·by_cases q : g = f
  ·rw [q]; exact (keys_putF f y fs).1
  ·refine (keys_putF f y fs).2 g (wi g fun z => hg ?_)
   show (if g = f then some u else mA g) = none
   rw [if_neg q]; exact z
theorem Inv.made (I : Inv X pins σ H s) : Inv X pins σ (upd (upd H s.heap.objs.size (.own (s.heap.objs.size + 1))) (s.heap.objs.size + 1) (.ins C s.heap.objs.size []))
  { s with heap := (s.heap.push PySem.W.emptyDict).push (PySem.W.instObj C s.heap.objs.size) } := by
 have e1 : (s.heap.push PySem.W.emptyDict).get? s.heap.objs.size = some PySem.W.emptyDict := Heap.get?_push_size s.heap rfl
 have e2 : ((s.heap.push PySem.W.emptyDict).push (PySem.W.instObj C s.heap.objs.size)).get? (s.heap.objs.size + 1) = some (PySem.W.instObj C s.heap.objs.size) := by
  have := Heap.get?_push_size (s.heap.push PySem.W.emptyDict) (o := PySem.W.instObj C s.heap.objs.size) rfl
  rwa [Heap.size_push] at this
 have e3 : (s.heap.push PySem.W.emptyDict).Ns s.heap.objs.size (fun _ => none) := ⟨PySem.W.emptyDict, #[], _, e1, rfl, (fun e he => absurd he (by simp)), fun _ => rfl⟩
 have I1 := I.laid (a := s.heap.objs.size) (o := .own (s.heap.objs.size + 1)) (h' := s.heap.push PySem.W.emptyDict) (t' := s.toks) (fun b u q => Heap.get?_push_of_some _ q) (Nat.le_refl _) ⟨_, e1⟩
 refine I1.laid (a := s.heap.objs.size + 1) (o := .ins C s.heap.objs.size []) (t' := s.toks) (fun b u q => Heap.get?_push_of_some _ q) (Nat.le_of_eq (Heap.size_push _ _)) ?_
 have ne : s.heap.objs.size ≠ s.heap.objs.size + 1 := Nat.ne_of_lt (Nat.lt_succ_self _)
 refine ⟨by rw [upd_ne ne, upd_same], Nat.zero_le _, ne, e2, fun _ => none, (Heap.Ns1.of_empty e3).at fun o q => Heap.get?_push_of_some _ q, fun _ => True.intro, fun y hy => absurd rfl hy⟩
theorem attr_of {prog : Program} {w : World} {env : Env} {e : Expr} {f : Str} {pos : Pos} {s : Shared} {Q : Value → Shared → Prop} (hb : attributeBase e f env (eval e env) = eval e env)
  (h : wpAny (model prog w) A (eval e env) (fun o s₁ => wpAny (model prog w) A (getAttr o f true) Q E s₁) E s) : wpAny (model prog w) A (eval (.Attribute e f pos) env) Q E s :=
 Attribute_any_ h (by rw [arm_eval_Attribute, hb])
end
section
variable {X : Cx} {o e value : Expr} {f : Str} {pos pos' tpos : Pos} {ta tv : TE}
end
section
variable {X : Cx} {pins : List (Addr × Obj)} {σ : St} {H : Hp} {s : Shared} {A : Around} {E : Value → Shared → Prop} {Q : Value → Shared → Prop} {c : Value} {b : Bool}
inductive TyOf (K : PySem.W.Frag) (H : Hp) : V → Value → Prop where
 | non : TyOf K H .non (.type "NoneType")
 | bl (x : Bool) : TyOf K H (.bl x) (.type "bool")
 | int (i : Int) : TyOf K H (.int i) (.type "int")
 | str (x : Str) : TyOf K H (.str x) (.type "str")
 | flt (x : UInt64) : TyOf K H (.flt x) (.type "float")
 | lst {a : Addr} {xs : List V} (e : H a = some (.lst xs)) : TyOf K H (.ref a) (.type "list")
 | frz {a : Addr} {o : Obj} {xs : List V} (e : H a = some (.frz o (.lst xs))) : TyOf K H (.ref a) (.type "list")
 | tup {a : Addr} {xs : List V} (e : H a = some (.tup xs)) : TyOf K H (.ref a) (.type "tuple")
 | dK {a : Addr} {kvs : List (Key × V)} (e : H a = some (.dK kvs)) : TyOf K H (.ref a) (.type "dict")
 | dT {a : Addr} {kvs : List (List Key × V)} (e : H a = some (.dT kvs)) : TyOf K H (.ref a) (.type "dict")
 | ins {a C dx : Addr} {fs : List (Str × V)} (e : H a = some (.ins C dx fs)) (cl : Cls K C) (ha : PySem.W.findIn K (.ref C) "__class__" = some (some (.builtin "object.__class__")))
   (hn : PySem.W.specialIn K (.builtin "object.__class__") "__get__" = some (some (.builtin "getset_descriptor.__get__"))) (htk : PySem.W.takesIn K (.builtin "object.__class__") = some true)
   (hm : PySem.W.mroIn K C (.type "object") = some true) : TyOf K H (.ref a) (.ref C)
theorem isinst_ok {x : V} {u t : Value} (I : Inv X pins σ H s) (rx : RelV x u) (ty : TyOf X.K H x t) (e : PySem.W.kitOne X.K t c = some b) (h : ∀ tk, Q (.bool b) { s with toks := tk }) :
  wpAny (model X.prog X.w) A (call (.builtin "isinstance") [u, c]) Q E s := by
 cases ty with
 | non => cases (show u = Value.none from rx); exact PySem.W.kia_one PySem.W.kitx_none I.kIn True.intro e (fun z => nomatch z) h
 | bl y => cases (show u = Value.bool y from rx); exact PySem.W.kia_one PySem.W.kitx_bool I.kIn True.intro e (fun z => nomatch z) h
 | int i => obtain ⟨t, q⟩ := (show ∃ t, u = Value.int i t from rx); cases q; exact PySem.W.kia_one PySem.W.kitx_int I.kIn True.intro e (fun z => nomatch z) h
 | str y => obtain ⟨t, q⟩ := (show ∃ t, u = Value.str y t from rx); cases q; exact PySem.W.kia_one PySem.W.kitx_str I.kIn True.intro e (fun z => nomatch z) h
 | flt y => obtain ⟨t, q⟩ := (show ∃ t, u = Value.float y t from rx); cases q; exact PySem.W.kia_one PySem.W.kitx_float I.kIn True.intro e (fun z => nomatch z) h
 | @lst a xs ea =>
  cases (show u = Value.ref a from rx)
  obtain ⟨_, _, n, _, h1⟩ := (show ObjOk X.prog X.w H s.heap a (.lst xs) from I.hok a _ ea)
  exact PySem.W.kia_one PySem.W.kitx_list I.kIn ⟨_, h1, rfl⟩ e (fun z => nomatch z) h
 | @frz a ob xs ea =>
  cases (show u = Value.ref a from rx)
  obtain ⟨_, _, _, n, _, h1⟩ := (show ObjOk X.prog X.w H s.heap a (.frz ob (.lst xs)) from I.hok a _ ea)
  exact PySem.W.kia_one PySem.W.kitx_list I.kIn ⟨_, h1, rfl⟩ e (fun z => nomatch z) h
 | @tup a xs ea =>
  cases (show u = Value.ref a from rx)
  obtain ⟨_, _, _, p⟩ := (show ObjOk X.prog X.w H s.heap a (.tup xs) from I.hok a _ ea)
  obtain ⟨o, h1, h2, _⟩ := p
  exact PySem.W.kia_one PySem.W.kitx_tuple I.kIn ⟨o, h1, h2⟩ e (fun z => nomatch z) h
 | @dK a kvs ea =>
  cases (show u = Value.ref a from rx)
  obtain ⟨_, _, vs, _, p⟩ := (show ObjOk X.prog X.w H s.heap a (.dK kvs) from I.hok a _ ea)
  obtain ⟨o, es, ep, h1, h2, _⟩ := p
  exact PySem.W.kia_one PySem.W.kitx_dict I.kIn ⟨o, h1, h2.1⟩ e (fun z => nomatch z) h
 | @dT a kvs ea =>
  cases (show u = Value.ref a from rx)
  obtain ⟨_, _, xs, _, o, es, ep, h1, h2, _⟩ := (show ObjOk X.prog X.w H s.heap a (.dT kvs) from I.hok a _ ea)
  exact PySem.W.kia_one PySem.W.kitx_dict I.kIn ⟨o, h1, h2.1⟩ e (fun z => nomatch z) h
 | @ins a C dx fs ea cl ha hn htk hm =>
  cases (show u = Value.ref a from rx)
  obtain ⟨mA, O, _⟩ := ins_get I.hok ea
  obtain ⟨od, J, _⟩ := O.look
  exact PySem.W.kia_one (PySem.W.kitx_own (cl.get _) cl.hd ha hn htk hm) I.kIn J e (fun z => nomatch z) h
end
end L2
namespace L2
open PySem PySem.Spec PyProof.Rows
structure Room (k : Nat) (A : Around) : Prop where
 hd : A.handled = none
 dp : A.depth + 3 * k + 5 < recursionLimit
 un : A.units + 16 * k + 200 < cLine
theorem Room.mono {j k : Nat} {A : Around} (r : Room k A) (h : j ≤ k) : Room j A := ⟨r.hd, by have := r.dp; omega, by have := r.un; omega⟩
theorem Room.deeper {k : Nat} {A : Around} (r : Room (k + 1) A) (env : Env) : Room k (A.deeper env) :=
 ⟨r.hd, by have := r.dp; show A.depth + 1 + 3 * k + 5 < _; omega, by have := r.un; show A.units + 3 + 16 * k + 200 < _; omega⟩
theorem make_depth {A : Around} {C : Addr} {us : List Value} {kw : List (Str × Value)} : (A.under (.builtin "type.__call__" ⟨.ref C :: us, kw⟩)).depth = A.depth + 1 := by
 first | rfl | simp [Around.under, Code.weight, Code.isCreation, Code.isGuard, Code.isCaller, Code.frames, Code.isFrame, guardIds]
theorem make_units {A : Around} {C : Addr} {us : List Value} {kw : List (Str × Value)} : (A.under (.builtin "type.__call__" ⟨.ref C :: us, kw⟩)).units = A.units + 1 := by
 first | rfl | simp [Around.under, Code.cUnits, Code.frames, Code.isFrame]
theorem Room.make {k : Nat} {A : Around} (r : Room (k + 1) A) (C : Addr) (us : List Value) (kw : List (Str × Value)) : Room k (A.under (.builtin "type.__call__" ⟨.ref C :: us, kw⟩)) :=
 ⟨r.hd, by have := r.dp; rw [make_depth]; omega, by have := r.un; rw [make_units]; omega⟩
theorem Room.depth {k : Nat} {A : Around} (r : Room k A) : A.depth < recursionLimit := by have := r.dp; omega
theorem Room.units {k : Nat} {A : Around} (r : Room k A) : A.units + 64 < cLine := by have := r.un; omega
noncomputable def tNil : TA := fun _ H Q => Q [] H
noncomputable def tCons (ta : TE) (tr : TA) : TA := fun σ H Q => ta σ H fun x H1 => tr σ H1 fun xs H2 => Q (x :: xs) H2
section
variable {X : Cx} {e : Expr} {es : List Expr} {te : TE} {t : TA} {pos : Pos}
theorem pa_nil : PA X [] tNil := fun _ _ _ _ H Q I h => Calls.spliced_nil ⟨[], H, I, .nil, h⟩
theorem pa_cons (ha : PE X e te) (hr : PA X es t) (hs : starEach (e :: es) X.env = (false, eval e X.env) :: starEach es X.env := by rfl) : PA X (e :: es) (tCons te t) := by
 intro pos pins s σ H Q I h
 rw [hs]
 show wpAny _ _ (spliced ((false, eval e X.env) :: backTo pos (starEach es X.env))) _ _ s
 refine Calls.spliced_cons (thn (ha pins s σ H _ I h) fun u s1 ⟨x, H1, I1, r1, q1⟩ => ?_)
 exact thn (hr pos pins s1 σ H1 _ I1 q1) fun us s2 ⟨xs, H2, I2, r2, q2⟩ => ⟨x :: xs, H2, I2, .cons r1 r2, q2⟩
noncomputable def tTup (t : TA) : TE := fun σ H Q => t σ H fun xs H1 => xs.length ≤ sizeLine ∧ ∀ p, H1 p = none → Q (.ref p) (upd H1 p (.tup xs))
noncomputable def tLst (t : TA) : TE := fun σ H Q => t σ H fun xs H1 => xs.length ≤ sizeLine ∧ ∀ p, H1 p = none → Q (.ref p) (upd H1 p (.lst xs))
theorem pe_tup {x1} (h : PA X es t) : PE X (.Tuple es x1 pos) (tTup t) := by
 intro pins s σ H Q I hq
 refine wpAny_Tuple_spliced (thn (h pos pins s σ H _ I hq) fun us s1 ⟨xs, H1, I1, r, z, q⟩ => ⟨by rw [← r.length]; exact z, ?_⟩)
 have hf : H1 s1.heap.objs.size = none := I1.hok.fresh (Nat.le_refl _)
 refine ⟨.ref s1.heap.objs.size, upd H1 s1.heap.objs.size (.tup xs), I1.laid (t' := s1.toks) (fun b u e => Heap.get?_push_of_some _ e) (Nat.le_refl _) ?_, rfl, q _ hf⟩
 exact ⟨z, us, r, ⟨_, Heap.get?_push_size _ rfl, rfl, _, rfl⟩⟩
theorem pe_lst (h : PA X es t) : PE X (.List es pos) (tLst t) := by
 intro pins s σ H Q I hq
 refine wpAny_List_spliced (thn (h pos pins s σ H _ I hq) fun us s1 ⟨xs, H1, I1, r, z, q⟩ => ⟨by rw [← r.length]; exact z, ?_⟩)
 have hf : H1 s1.heap.objs.size = none := I1.hok.fresh (Nat.le_refl _)
 refine ⟨.ref s1.heap.objs.size, upd H1 s1.heap.objs.size (.lst xs), I1.laid (t' := s1.toks) (fun b u e => Heap.get?_push_of_some _ e) (Nat.le_refl _) ?_, rfl, q _ hf⟩
 exact ⟨z, us, 0, r, Heap.get?_push_size _ rfl⟩
end
noncomputable abbrev Sp := List V → Hp → VK → XK → Prop
noncomputable abbrev CXT := List Env → Hp → Shared → XK → Value → Shared → Prop
structure Env0 (P : Program) (w : World) (K : PySem.W.Frag) (mg : Str → Option Value) (base : Heap) (A : Around) (outer : List Env) (s : Shared) (H : Hp) : Prop where
 frames : A.frames = some outer
 mod : Mod K mg base
 bs : ∀ b o, base.get? b = some o → s.heap.get? b = some o ∧ H b = none
 bsz : base.objs.size ≤ s.heap.objs.size
 funs : s.heap.FunFrames base outer
 frf : ∀ b ∈ frs outer, H b = none
 hok : HOk P w H s.heap
 bare : AllBare s.gens
noncomputable def CE (outer : List Env) (P : Program) (w : World) (H : Hp) (s : Shared) (Q : VK) (u : Value) (s' : Shared) : Prop :=
 ∃ v H', s'.os = s.os ∧ AllBare s'.gens ∧ Un (frs outer) [] H H' s.heap s'.heap ∧ HOk P w H' s'.heap ∧ RelV v u ∧ Q v H'
noncomputable def CR (CX : CXT) (outer : List Env) (P : Program) (w : World) (H : Hp) (s : Shared) (Q : VK) (E : XK) (r : Result) (s' : Shared) : Prop :=
 match r with
 | .ok (.ret u) => CE outer P w H s Q u s'
 | .ok _ => False
 | .error e => CX outer H s E e s'
structure FnOk (P : Program) (w : World) (K : PySem.W.Frag) (mg : Str → Option Value) (base : Heap) (CX : CXT) (k : Nat) (f : Addr) (fd : FuncData) (ps : List Str) (sp : Sp) : Prop where
 len : ∀ vs H Q E, sp vs H Q E → vs.length = ps.length
 run : ∀ (A : Around) (outer : List Env) (s : Shared) (H : Hp) (args : Args) (us : List Value) (vs : List V) (Q : VK) (E : XK), Room k A → Env0 P w K mg base A outer s H → BindsTo s fd args (ps.zip us) → Vals vs us → sp vs H Q E →
  codeAny (model P w) A (.call (.ref f) args) (CR CX outer P w H s Q E) s
theorem Env0.make {P : Program} {w : World} {K : PySem.W.Frag} {mg : Str → Option Value} {base : Heap} {A : Around} {outer : List Env} {s : Shared} {H : Hp} (e : Env0 P w K mg base A outer s H) (C : Addr) (us : List Value) (kw : List (Str × Value)) :
  Env0 P w K mg base (A.under (.builtin "type.__call__" ⟨.ref C :: us, kw⟩)) outer s H := ⟨by first | exact e.frames | (simpa [Around.under, Code.envs, Code.isFrame, pushEnvs] using e.frames), e.mod, e.bs, e.bsz, e.funs, e.frf, e.hok, e.bare⟩
section
variable {X : Cx} {pins : List (Addr × Obj)} {σ : St} {H : Hp} {s s' : Shared}
theorem Inv.env0 (I : Inv X pins σ H s) : Env0 X.prog X.w X.K X.mg X.base X.A X.stack s H :=
 ⟨I.ok.frames, I.ok.mod, I.bs, Nat.le_trans I.ok.bsz I.sz, I.stack, I.stkFree, I.hok, I.bare⟩
theorem Inv.after {Q : VK} {u : Value} (I : Inv X pins σ H s) (h : CE X.stack X.prog X.w H s Q u s') : EP X pins σ Q u s' := by
 obtain ⟨v, H', os, bare, un, hok, r, q⟩ := h
 obtain ⟨hh, g, d, t, os'⟩ := s'
 obtain rfl : os' = s.os := os
 exact ⟨v, H', I.call (h' := hh) (g' := g) (d' := d) (t' := t) (ch := []) un hok bare (fun b z => absurd z (by simp)), r, q⟩
end
noncomputable def tCall (sp : Sp) (dvs : List V) (E : XK) (t : TA) : TE := fun σ H Q => t σ H fun vs H1 => sp (vs ++ dvs) H1 Q E
noncomputable def tMake (C : Addr) (sp : Sp) (dvs : List V) (E : XK) (t : TA) : TE := fun σ H Q => t σ H fun vs H1 => ∀ x dx, H1 x = none → H1 dx = none → dx ≠ x →
 sp (.ref x :: (vs ++ dvs)) (upd (upd H1 dx (.own x)) x (.ins C dx [])) (fun v H2 => v = .non ∧ Q (.ref x) H2) E
noncomputable def Binds (K : PySem.W.Frag) (fd : FuncData) (ps : List Str) (ds : List Value) : Prop :=
 ∀ (s : Shared) (us : List Value), K.In s.heap → (us ++ ds).length = ps.length → BindsTo s fd ⟨us, []⟩ (ps.zip (us ++ ds))
theorem Binds.all {K : PySem.W.Frag} {fd : FuncData} {ps : List Str} (h : ∀ us : List Value, us.length = ps.length → bindArgs fd ⟨us, []⟩ = pure (ps.zip us)) : Binds K fd ps [] := fun s us _ hl => by
 rw [List.append_nil] at hl ⊢
 exact .of_eq (h us hl)
noncomputable def Passes (CX : CXT) (X : Cx) (E : XK) : Prop := ∀ (pins : List (Addr × Obj)) (σ : St) (H : Hp) (s : Shared) (e : Value) (s' : Shared), Inv X pins σ H s → CX X.stack H s E e s' → X.xe e s'
section
variable {X : Cx} {CX : CXT} {k : Nat} {f C : Addr} {fd : FuncData} {ps : List Str} {sp : Sp} {dvs : List V} {ds : List Value} {E : XK} {x m : Str} {p pos apos : Pos} {e o : Expr} {es : List Expr} {ta : TE} {t : TA}
theorem run_fn {pins : List (Addr × Obj)} {σ : St} {H : Hp} {s : Shared} {Q : VK} {us : List Value} {vs : List V} (F : FnOk X.prog X.w X.K X.mg X.base CX k f fd ps sp) (hr : Room k X.A) (hb : Binds X.K fd ps ds) (hd : Vals dvs ds) (hx : Passes CX X E)
  (I : Inv X pins σ H s) (r : Vals vs us) (h : sp (vs ++ dvs) H Q E) : wpAny (model X.prog X.w) X.A (call (.ref f) us) (EP X pins σ Q) X.xe s := by
 have r2 : Vals (vs ++ dvs) (us ++ ds) := r.append hd
 have hl : (us ++ ds).length = ps.length := by rw [← r2.length]; exact F.len _ _ _ _ h
 refine wpAny_call (codeAny_mono (F.run X.A X.stack s H ⟨us, []⟩ (us ++ ds) (vs ++ dvs) Q E hr I.env0 (hb s us I.kIn hl) r2 h) fun r s' hq => ?_)
 cases r with
 | error e => exact hx pins σ H s e s' I hq
 | ok fl =>
  cases fl with
  | ret u => exact I.after hq
  | next => exact False.elim hq
  | brk => exact False.elim hq
  | cont => exact False.elim hq
theorem pe_call (F : FnOk X.prog X.w X.K X.mg X.base CX k f fd ps sp) (hr : Room k X.A) (hg : Gl X x) (hm : X.mg x = some (.ref f)) (hk : PySem.W.keepIn X.K (.ref f) = true) (hb : Binds X.K fd ps ds) (hd : Vals dvs ds) (hx : Passes CX X E)
  (ha : PA X (e :: es) t) (hdb : (x == ("__debug__" : Str)) = false := by decide) (he : starEach (e :: es) X.env = (false, eval e X.env) :: starEach es X.env := by rfl) (hpl : (backTo pos (starEach es X.env)).any (·.1) = false := by rfl) :
  PE X (.Call (.Name x p) (e :: es) [] pos) (tCall sp dvs E t) := by
 intro pins s σ H Q I h
 refine wpAny_Call_Name_kw (ld_glob I hg hm ?_ hdb)
 refine PySem.W.callWith_K (h₀ := X.base) I.ok.mod.kin hk (thn (ha pos pins s σ H _ I h) fun us s1 ⟨vs, H1, I1, r, q⟩ => ⟨I1.kIn, ?_⟩) he hpl
 exact run_fn F hr hb hd hx I1 r q
structure Mk (K : PySem.W.Frag) (C f : Addr) : Prop where
 makes : PySem.W.makesIn K C = true
 init : PySem.W.findIn K (.ref C) "__init__" = some (some (.ref f))
 fn : PySem.W.isFn K (.ref f) = true
 kp : PySem.W.keepIn K (.ref C) = true
theorem run_make {pins : List (Addr × Obj)} {σ : St} {H : Hp} {s : Shared} {Q : VK} {us : List Value} {vs : List V} (M : Mk X.K C f) (F : FnOk X.prog X.w X.K X.mg X.base CX k f fd ps sp) (hr : Room (k + 1) X.A) (hb : Binds X.K fd ps ds) (hd : Vals dvs ds)
  (hx : Passes CX X E) (I : Inv X pins σ H s) (r : Vals vs us)
  (h : ∀ x dx, H x = none → H dx = none → dx ≠ x → sp (.ref x :: (vs ++ dvs)) (upd (upd H dx (.own x)) x (.ins C dx [])) (fun v H2 => v = .non ∧ Q (.ref x) H2) E) :
  wpAny (model X.prog X.w) X.A (call (.ref C) us) (EP X pins σ Q) X.xe s := by
 have hq := h (s.heap.objs.size + 1) s.heap.objs.size (I.hok.fresh (Nat.le_succ _)) (I.hok.fresh (Nat.le_refl _)) (Nat.ne_of_lt (Nat.lt_succ_self _))
 have I2 := Inv.made (C := C) I
 have r2 : Vals (V.ref (s.heap.objs.size + 1) :: (vs ++ dvs)) (Value.ref (s.heap.objs.size + 1) :: (us ++ ds)) := .cons rfl (r.append hd)
 have hl : (Value.ref (s.heap.objs.size + 1) :: us ++ ds).length = ps.length := by
  have e := r2.length
  rw [F.len _ _ _ _ hq] at e
  exact e.symm
 refine wpAny_call (make_map (f := f) I.kIn M.makes M.init (beq_iff_eq.mp M.fn) (codeAny_mono (F.run _ X.stack _ _ ⟨Value.ref (s.heap.objs.size + 1) :: us, []⟩ (Value.ref (s.heap.objs.size + 1) :: (us ++ ds)) _ _ E (hr.make C us [])
  (I2.env0.make C us []) (hb _ (Value.ref (s.heap.objs.size + 1) :: us) I2.kIn hl) r2 hq) fun r s' hq' => ?_))
 cases r with
 | error e => exact hx pins σ _ _ e s' I2 hq'
 | ok fl =>
  cases fl with
  | ret u =>
   obtain ⟨v, H', I3, rv, ev, q3⟩ := I2.after hq'
   subst ev
   exact ⟨rv, ⟨V.ref (s.heap.objs.size + 1), H', I3, rfl, q3⟩⟩
  | next => exact False.elim hq'
  | brk => exact False.elim hq'
  | cont => exact False.elim hq'
theorem pe_make (M : Mk X.K C f) (F : FnOk X.prog X.w X.K X.mg X.base CX k f fd ps sp) (hr : Room (k + 1) X.A) (hg : Gl X x) (hm : X.mg x = some (.ref C)) (hb : Binds X.K fd ps ds) (hd : Vals dvs ds) (hx : Passes CX X E)
  (ha : PA X (e :: es) t) (hdb : (x == ("__debug__" : Str)) = false := by decide) (he : starEach (e :: es) X.env = (false, eval e X.env) :: starEach es X.env := by rfl) (hpl : (backTo pos (starEach es X.env)).any (·.1) = false := by rfl) :
  PE X (.Call (.Name x p) (e :: es) [] pos) (tMake C sp dvs E t) := by
 intro pins s σ H Q I h
 refine wpAny_Call_Name_kw (ld_glob I hg hm ?_ hdb)
 refine PySem.W.callWith_K (h₀ := X.base) I.ok.mod.kin M.kp (thn (ha pos pins s σ H _ I h) fun us s1 ⟨vs, H1, I1, r, q⟩ => ⟨I1.kIn, ?_⟩) he hpl
 exact run_make M F hr hb hd hx I1 r q
end
noncomputable def PK (X : Cx) (kws : List Keyword) (t : TA) : Prop :=
 ∀ (pos : Pos) (pins : List (Addr × Obj)) (s : Shared) (σ : St) (H : Hp) (Q : List V → Hp → Prop), Inv X pins σ H s → t σ H Q → wpAny (model X.prog X.w) X.A (evalAll ((backToKw pos (keywordEach kws X.env)).map (·.2))) (AP X pins σ Q) X.xe s
section
variable {X : Cx} {CX : CXT} {k : Nat} {f C : Addr} {fd : FuncData} {ps ks : List Str} {sp : Sp} {E : XK} {x m : Str} {p pos apos kpos : Pos} {e o : Expr} {es : List Expr} {kws : List Keyword} {te ta : TE} {t tk : TA} {nm : Option Str}
theorem pk_nil : PK X [] tNil := fun _ _ _ _ H Q I h => wpAny_evalAll_nil ⟨[], H, I, .nil, h⟩
theorem pk_cons (ha : PE X e te) (hr : PK X kws t) : PK X (⟨nm, e, kpos⟩ :: kws) (tCons te t) := by
 intro pos pins s σ H Q I h
 show wpAny _ _ (evalAll ((do let v ← eval e X.env; standAt pos; pure v) :: (backToKw pos (keywordEach kws X.env)).map (·.2))) _ _ s
 refine wpAny_evalAll_cons (wpAny_bind (thn (ha pins s σ H _ I h) fun u s1 ⟨x, H1, I1, r1, q1⟩ => wpAny_bind (wpAny_standAt (wpAny_pure ?_))))
 exact thn (hr pos pins s1 σ H1 _ I1 q1) fun us s2 ⟨xs, H2, I2, r2, q2⟩ => ⟨x :: xs, H2, I2, .cons r1 r2, q2⟩
variable {g : List Value → List Value → List Value} {gV : List V → List V → List V}
end
structure FnScope (N P : List Str) (sc : Scope) : Prop where
 kind : sc.kind = .function
 co : sc.isCoroutine = false
 gen : sc.isGenerator = false
 nd : N.Nodup
 pre : N.take P.length = P
 par : ∀ x ∈ P, sc.names.lookup x = some .local ∨ sc.names.lookup x = some .cell
 nofree : ∀ y ∈ sc.names, y.2 ≠ .free
theorem bindL_out {kindOf : Str → Option NameKind} {x : Str} : ∀ {binds : List (Str × Value)} {m : Str → Option Value}, (∀ v, (x, v) ∉ binds) → bindL kindOf binds m x = m x
 | [], _, _ => rfl
 | (n, v) :: r, m, h => by
  unfold bindL
  rw [bindL_out fun w hw => h w (List.mem_cons_of_mem _ hw)]
  split
  ·have : x ≠ n := by rintro rfl; exact h v List.mem_cons_self
   simp [this]
  ·rfl
theorem bindC_out {kindOf : Str → Option NameKind} {x : Str} : ∀ {binds : List (Str × Value)} {m : Str → Option Value}, (∀ v, (x, v) ∉ binds) → bindC kindOf binds m x = m x
 | [], _, _ => rfl
 | (n, v) :: r, m, h => by
  unfold bindC
  rw [bindC_out fun w hw => h w (List.mem_cons_of_mem _ hw)]
  split
  ·rfl
  ·have : x ≠ n := by rintro rfl; exact h v List.mem_cons_self
   simp [this]
theorem bindL_get {kindOf : Str → Option NameKind} {x : Str} {v : Value} : ∀ {P : List Str} {vs : List Value} {i : Nat} {m : Str → Option Value}, P.Nodup → P[i]? = some x → vs[i]? = some v → kindOf x = some .local →
  bindL kindOf (P.zip vs) m x = some v
 | [], _, _, _, _, h, _, _ => by simp at h
 | _ :: _, [], _, _, _, _, h, _ => by simp at h
 | p :: P, w :: vs, 0, m, nd, h1, h2, hk => by
  simp at h1 h2; subst h1; subst h2
  show bindL kindOf ((p, w) :: P.zip vs) m p = _
  unfold bindL
  rw [bindL_out fun v hv => (List.nodup_cons.mp nd).1 (List.of_mem_zip hv).1, if_pos hk]
  simp
 | p :: P, w :: vs, i + 1, m, nd, h1, h2, hk => by
  show bindL kindOf ((p, w) :: P.zip vs) m x = _
  unfold bindL
  exact bindL_get (i := i) (List.nodup_cons.mp nd).2 (by simpa using h1) (by simpa using h2) hk
theorem bindC_get {kindOf : Str → Option NameKind} {x : Str} {v : Value} : ∀ {P : List Str} {vs : List Value} {i : Nat} {m : Str → Option Value}, P.Nodup → P[i]? = some x → vs[i]? = some v → kindOf x ≠ some .local →
  bindC kindOf (P.zip vs) m x = some v
 | [], _, _, _, _, h, _, _ => by simp at h
 | _ :: _, [], _, _, _, _, h, _ => by simp at h
 | p :: P, w :: vs, 0, m, nd, h1, h2, hk => by
  simp at h1 h2; subst h1; subst h2
  show bindC kindOf ((p, w) :: P.zip vs) m p = _
  unfold bindC
  rw [bindC_out fun v hv => (List.nodup_cons.mp nd).1 (List.of_mem_zip hv).1, if_neg hk]
  simp
 | p :: P, w :: vs, i + 1, m, nd, h1, h2, hk => by
  show bindC kindOf ((p, w) :: P.zip vs) m x = _
  unfold bindC
  exact bindC_get (i := i) (List.nodup_cons.mp nd).2 (by simpa using h1) (by simpa using h2) hk
noncomputable def start (N : List Str) (vs : List V) : St := vs.map some ++ List.replicate (N.length - vs.length) none
noncomputable def cxOf (CX : CXT) (P : Program) (w : World) (K : PySem.W.Frag) (mg : Str → Option Value) (base : Heap) (N : List Str) (qual : Str) (scope : Scope) (f : Addr) (cd : Value) (A : Around) (outer : List Env) (s : Shared) (H : Hp) (E : XK) : Cx where
 prog := P
 w := w
 K := K
 mg := mg
 base := base
 A := A.deeper (envOfC qual scope s.heap.objs.size f cd)
 N := N
 s₀ := s
 H₀ := H
 env := envOfC qual scope s.heap.objs.size f cd
 outer := outer
 stack := envOfC qual scope s.heap.objs.size f cd :: outer
 ex := []
 calm := true
 fn := fun _ => true
 pn := []
 xe := fun e s' => wpAny (model P w) (A.deeper (envOfC qual scope s.heap.objs.size f cd)) (leaving (envOfC qual scope s.heap.objs.size f cd) e) (fun _ s'' => CX outer H s E e s'') (fun e' s'' => CX outer H s E e' s'') s'
theorem cell_has {sc : Scope} {n : Nat} {x : Str} (h : sc.names.lookup x = some .cell) : ∃ c, (cellsFrom n sc.names []).lookup x = some c := by
 have q := PySem.W.cellsFrom_some sc.names n [] (.inl h)
 exact Option.isSome_iff_exists.mp q
theorem inv_start {CX : CXT} {P : Program} {w : World} {K : PySem.W.Frag} {mg : Str → Option Value} {base : Heap} {N ps : List Str} {qual : Str} {scope : Scope} {f : Addr} {cd : Value} {A : Around} {outer : List Env} {s s1 : Shared} {H : Hp} {E : XK} {us : List Value} {vs : List V}
  (S : FnScope N ps scope) (hd : A.handled = none) (e0 : Env0 P w K mg base A outer s H) (hl : vs.length = ps.length) (r : Vals vs us)
  (x : InCallC s s.heap.objs.size (bindL (envOfC qual scope s.heap.objs.size f cd).kindOf (ps.zip us) fun _ => none) (cellsFrom (s.heap.objs.size + 1) scope.names []) (bindC (envOfC qual scope s.heap.objs.size f cd).kindOf (ps.zip us) fun _ => none) s1) :
  Inv (cxOf CX P w K mg base N qual scope f cd A outer s H E) [] (start N vs) H s1 := by
 have hpl : ps.length ≤ N.length := by have := congrArg List.length S.pre; rw [List.length_take] at this; omega
 obtain ⟨h1, tk, rfl, hk⟩ := x.done
 have noA : ∀ b : Addr, b ∉ (cxOf CX P w K mg base N qual scope f cd A outer s H E).ex := fun b z => absurd (show b ∈ ([] : List Addr) from z) (by simp)
 refine ⟨⟨e0.mod, S.kind, rfl, rfl, Nat.le_refl _, fun y z c h1 h2 => ?_, fun y hy => ?_, fun y c _ h => ?_, fun _ => hd, Around.frames_deeper e0.frames, .inr ⟨rfl, rfl⟩, fun b z => absurd z (noA b), e0.bs, e0.bsz, fun b _ _ => noA b, fun b z => absurd z (noA b), e0.funs, e0.frf⟩,
  rfl, e0.bare, Un.kept hk, ⟨_, x.toInCall.ns, fun i y v h1 h2 h3 => ?_⟩, fun y c h => ⟨_, x.cell y c h⟩, e0.hok.fresh (Nat.le_refl _), fun y c h => ?_, fun p hp => absurd (show p ∈ ([] : List (Addr × Obj)) from hp) (by simp), e0.hok.kept hk, ?_⟩
 ·exact name_of_addr x.apart (PySem.mem_of_lookup h1) (PySem.mem_of_lookup h2)
 ·have hy : scope.names.lookup y = some .cell ∨ scope.names.lookup y = some .free := hy
  rcases hy with hy | hy
  ·exact cell_has hy
  ·exact absurd rfl (S.nofree _ (PySem.mem_of_lookup hy))
 ·exact Nat.le_of_lt (x.above y c (PySem.mem_of_lookup h))
 ·have hi : i < vs.length := by
   unfold start at h2
   by_cases hi : i < vs.length
   ·exact hi
   ·rw [List.getElem?_append_right (by simpa using hi)] at h2
    rw [List.getElem?_replicate] at h2
    split at h2 <;> cases h2
  have ha : vs[i]? = some v := by
   unfold start at h2
   rw [List.getElem?_append_left (by simpa using hi), List.getElem?_map] at h2
   cases e : vs[i]? with
   | none => rw [e] at h2; cases h2
   | some a => rw [e] at h2; cases h2; rfl
  obtain ⟨u, hu, rv⟩ := r.get ha
  have hp : ps[i]? = some y := by
   rw [← S.pre, List.getElem?_take_of_lt (by omega)]; exact h1
  have ndP : ps.Nodup := by rw [← S.pre]; exact S.nd.sublist (List.take_sublist _ _)
  refine ⟨u, rv, ?_⟩
  rcases S.par y (List.mem_of_getElem? hp) with k | k
  ·exact .inl ⟨k, bindL_get ndP hp hu k⟩
  ·obtain ⟨c, e⟩ := cell_has (n := s.heap.objs.size + 1) k
   refine .inr ⟨.inl k, c, e, ?_⟩
   have q := x.cell y c e
   rw [bindC_get ndP hp hu (by show scope.names.lookup y ≠ _; rw [k]; decide)] at q
   exact q
 ·exact e0.hok.fresh (Nat.le_of_lt (x.above y c (PySem.mem_of_lookup h)))
 ·unfold start
  show _ = N.length
  rw [List.length_append, List.length_map, List.length_replicate]
  omega
theorem fn_of {CX : CXT} {P : Program} {w : World} {K : PySem.W.Frag} {mg : Str → Option Value} {base : Heap} {k : Nat} {f : Addr} {name qual : Str} {params : Arguments} {body : List Stmt} {scope : Scope} {dV kV doc pm cdv ct oc : Value} {an od : Option Addr}
  {osl : Array (Option Value)} {N ps : List Str} {sp : Sp} (lk : K.lookup f = some ⟨oc, od, .func (PySem.W.fnOf name qual params body scope dV kV doc pm an cdv ct), osl⟩) (hcd : PySem.W.codeIn K cdv qual = true) (S : FnScope N ps scope)
  (len : ∀ vs H Q E, sp vs H Q E → vs.length = ps.length)
  (hbody : ∀ (A : Around) (outer : List Env) (s : Shared) (H : Hp) (vs : List V) (Q : VK) (E : XK), Room k (A.deeper (envOfC qual scope s.heap.objs.size f cdv)) → sp vs H Q E →
   ∃ t, PSs (cxOf CX P w K mg base N qual scope f cdv A outer s H E) body t ∧ t { nx := fun _ H' => Q .non H', rt := Q } (start N vs) H) :
  FnOk P w K mg base CX (k + 1) f (PySem.W.fnOf name qual params body scope dV kV doc pm an cdv ct) ps sp := by
 refine ⟨len, fun A outer s H args us vs Q E hr e0 hb r hsp => ?_⟩
 have hl := len _ _ _ _ hsp
 have KX : K.In s.heap := e0.mod.kin.keeps fun b o e => (e0.bs b o e).1
 have lim : s.heap.NoLimit := e0.mod.nolimit.keeps fun b o e => (e0.bs b o e).1
 have hkind : ∀ y ∈ ps.zip us, scope.names.lookup y.1 = some .local ∨ (scope.names.lookup y.1 = some .cell ∧ ((cellsFrom (s.heap.objs.size + 1) scope.names []).lookup y.1).isSome = true) := fun ⟨n, v⟩ hy => by
  rcases S.par n (List.of_mem_zip hy).1 with q | q
  ·exact .inl q
  ·exact .inr ⟨q, PySem.W.cellsFrom_some _ _ _ (.inl q)⟩
 refine codeAny_call_function hr.depth (KX _ _ lk) rfl S.co S.gen rfl (PySem.W.codeRec_of KX hcd) (hb _ _ _ _ ?_)
 refine wpAny_newFunctionEnv_cells S.kind hkind fun env he s1 x => ?_
 subst he
 refine ⟨lim.keeps x.toInCall.keep, codeAny_func ?_⟩
 obtain ⟨t, ht, hq⟩ := hbody A outer s H vs Q E (hr.deeper _) hsp
 have I : Inv (cxOf CX P w K mg base N qual scope f cdv A outer s H E) [] (start N vs) H s1 := inv_start S hr.hd e0 hl r x
 refine wpAny_mono (ht [] s1 (start N vs) H _ I hq) (fun fl s' hs => ?_) fun e s' hs => hs
 have fin : ∀ {σ' : St} {H' : Hp} {v : V} {u : Value}, Inv (cxOf CX P w K mg base N qual scope f cdv A outer s H E) [] σ' H' s' → RelV v u → Q v H' → CE outer P w H s Q u s' :=
  fun {σ' H' v u} J rv q => ⟨v, H', J.os, J.bare, J.base, J.hok, rv, q⟩
 cases fl with
 | ret u =>
  obtain ⟨v, σ', H', J, rv, q⟩ := hs
  exact fin J rv q
 | next =>
  obtain ⟨σ', H', J, q⟩ := hs
  exact fin (v := V.non) (u := Value.none) J rfl q
 | brk =>
  obtain ⟨_, _, _, q⟩ := hs
  exact False.elim q
 | cont =>
  obtain ⟨_, _, _, q⟩ := hs
  exact False.elim q
end L2
namespace L2
open PySem PySem.Spec PyProof.Rows
section
variable {X : Cx} {x : Str} {p pos : Pos} {e : Expr} {es : List Expr} {t : TA} {id T : String} {r : List V → Hp → VK → Prop}
noncomputable def tCB (r : List V → Hp → VK → Prop) (t : TA) : TE := fun σ H Q => t σ H fun vs H1 => r vs H1 Q
theorem pe_callB (hc : CallR X (.builtin id) r) (hg : Gl X x) (hm : X.mg x = none) (hv : bootBuiltins x = some (.builtin id)) (ha : PA X (e :: es) t) (hn : x ≠ "__name__" := by decide) (hdb : (x == ("__debug__" : Str)) = false := by decide)
  (he : starEach (e :: es) X.env = (false, eval e X.env) :: starEach es X.env := by rfl) (hpl : (backTo pos (starEach es X.env)).any (·.1) = false := by rfl) : PE X (.Call (.Name x p) (e :: es) [] pos) (tCB r t) := by
 intro pins s σ H Q I h
 refine wpAny_Call_Name_kw (ld_blt I hg hm hv ?_ hn hdb)
 exact PyProof.Rows.callWith_builtin1 (thn (ha pos pins s σ H _ I h) fun us s1 ⟨vs, H1, I1, r1, q1⟩ => hc pins s1 σ H1 vs us Q I1 r1 q1) he hpl
theorem pe_callTy (hc : CallR X (.type T) r) (hg : Gl X x) (hm : X.mg x = none) (hv : bootBuiltins x = some (.type T)) (ha : PA X (e :: es) t) (hn : x ≠ "__name__" := by decide) (hdb : (x == ("__debug__" : Str)) = false := by decide)
  (he : starEach (e :: es) X.env = (false, eval e X.env) :: starEach es X.env := by rfl) (hpl : (backTo pos (starEach es X.env)).any (·.1) = false := by rfl) : PE X (.Call (.Name x p) (e :: es) [] pos) (tCB r t) := by
 intro pins s σ H Q I h
 refine wpAny_Call_Name_kw (ld_blt I hg hm hv ?_ hn hdb)
 exact PyProof.Rows.callWith_type1 (thn (ha pos pins s σ H _ I h) fun us s1 ⟨vs, H1, I1, r1, q1⟩ => hc pins s1 σ H1 vs us Q I1 r1 q1) he hpl
end
end L2
namespace HT
open PySem PyProof.Rows
section
open PySem.SeqAt
open PySem.AutoSeq1 (wpAny_loadPart')
open PySem.MeetsSeq PySem.MeetsSeq2 PySem.MeetsSeq3
end
section
variable {prog : Program} {w : World} {A : Around} {E : Value → Shared → Prop} {s : Shared}
theorem cat_tup {t b : Addr} {vs ws : List Value} {Q : Value → Shared → Prop} (ht : IsTup s.heap t vs.toArray) (hb : IsTup s.heap b ws.toArray) (hv : vs ≠ [])
  (h1 : ws = [] → Q (.ref t) s) (h2 : ws ≠ [] → Q (.ref s.heap.objs.size) { s with heap := s.heap.push { cls := .type "tuple", data := .seq (vs ++ ws).toArray } })
  (hsz : vs.length + ws.length ≤ sizeLine) : wpAny (model prog w) A (binaryOp .Add (.ref t) (.ref b)) Q E s := by
 obtain ⟨⟨cls, dd, data, sl⟩, ho, hc, n, hd⟩ := id ht
 obtain ⟨⟨cls2, dd2, data2, sl2⟩, ho2, hc2, n2, hd2⟩ := id hb
 simp only at hc hd hc2 hd2
 subst hc hd hc2 hd2
 have e : vs.toArray ++ ws.toArray = (vs ++ ws).toArray := by simp
 by_cases hw : ws = []
 ·exact concat_meets ⟨_, ho, rfl⟩ ⟨_, ho2, rfl⟩ noFill_tuple_add seq_tuple_add PySem.F.slot_tuple_add PySem.F.entry_tuple_add (PySem.F.args_tuple_add_2 _ _)
   (tuple_addW1 t b vs.toArray ws.toArray n n2 dd dd2 sl sl2 (by simpa using hv) (by simp [hw])) ⟨ho, ho2, h1 hw⟩
 ·refine concat_meets ⟨_, ho, rfl⟩ ⟨_, ho2, rfl⟩ noFill_tuple_add seq_tuple_add PySem.F.slot_tuple_add PySem.F.entry_tuple_add (PySem.F.args_tuple_add_2 _ _)
   (tuple_addW2 t b vs.toArray ws.toArray n n2 dd dd2 sl sl2 (by simpa using hv) (by simpa using hw) (by rw [List.size_toArray, List.size_toArray]; exact hsz)) ⟨ho, ho2, ?_⟩
  rw [e]
  exact h2 hw
noncomputable def sIx (n d : Nat) : Option Int → Nat
 | none => d
 | some v => if v < 0 then (v + (n : Int)).toNat else min v.toNat n
theorem sIx_nat (n d k : Nat) : sIx n d (some (k : Int)) = min k n := by
 show (if (k : Int) < 0 then ((k : Int) + (n : Int)).toNat else min (k : Int).toNat n) = min k n
 rw [if_neg (by omega), Int.toNat_natCast]
theorem sIx_le (n d : Nat) (hd : d ≤ n) (o : Option Int) : sIx n d o ≤ n := by
 cases o with
 | none => exact hd
 | some v =>
  show (if v < 0 then (v + (n : Int)).toNat else min v.toNat n) ≤ n
  by_cases hv : v < 0
  ·rw [if_pos hv]; omega
  ·rw [if_neg hv]; exact Nat.min_le_right _ _
theorem clip_eq (v : Int) (n d : Nat) : (if v < 0 then max (v + (n : Int)) 0 else min v (n : Int)) = ((sIx n d (some v) : Nat) : Int) := by
 show (if v < 0 then max (v + (n : Int)) 0 else min v (n : Int)) = (((if v < 0 then (v + (n : Int)).toNat else min v.toNat n) : Nat) : Int)
 by_cases hv : v < 0
 ·simp only [if_pos hv]; omega
 ·simp only [if_neg hv]; omega
theorem adjust_gen (lo hi : Option Int) (n : Nat) : Builtin.Slice.sliceAdjust lo hi 1 (n : Int) = (((sIx n 0 lo : Nat) : Int), ((sIx n n hi : Nat) : Int)) := by
 have h1 : ¬ ((1 : Int) < 0) := by omega
 unfold Builtin.Slice.sliceAdjust
 simp only [h1, if_false]
 refine Prod.ext ?_ ?_
 ·cases lo with
  | none => rfl
  | some v => exact clip_eq v n 0
 ·cases hi with
  | none => rfl
  | some v => exact clip_eq v n n
theorem places_gen (i j : Nat) : Builtin.Slice.slicePlaces (i : Int) (j : Int) 1 = j - i := by
 unfold Builtin.Slice.slicePlaces
 have h1 : (1 : Int) > 0 := by omega
 simp only [h1, if_true, Int.ediv_one]
 split <;> omega
theorem slicePart_ {v : Value} {o : Option Int} {Q : Option Int → Shared → Prop} (p : IsPart v o) (h : Q o s) : wpAny (model prog w) A (Builtin.Slice.slicePartIndex v) Q E s := by
 cases p with
 | none => exact slicePart_none h
 | int i t => exact slicePart_int h
theorem sliceApplied_gen {sl : Addr} {vl vu : Value} {lo hi : Option Int} {n : Nat} {Q : Int × Int × Nat → Shared → Prop} (hs : s.heap.IsSliceOf sl vl vu .none) (pl : IsPart vl lo) (pu : IsPart vu hi)
  (h : Q (((sIx n 0 lo : Nat) : Int), 1, sIx n n hi - sIx n 0 lo) s) : wpAny (model prog w) A (Builtin.Slice.sliceApplied (.ref sl) (pure (n : Int))) Q E s := by
 obtain ⟨os, hos, hcs, hds⟩ := id hs
 unfold Builtin.Slice.sliceApplied Builtin.Slice.sliceFields
 refine wpAny_bind (wpAny_bind (wpAny_field hos hds (x := vl) rfl (wpAny_bind (wpAny_field hos hds (x := vu) rfl (wpAny_bind (wpAny_field hos hds (x := .none) rfl (wpAny_pure ?_)))))))
 refine wpAny_bind (slicePart_none ?_)
 show wpAny _ _ (if ((1 : Int) == 0) = true then _ else _) _ _ s
 rw [if_neg (by decide)]
 refine wpAny_bind (slicePart_ pl (wpAny_bind (slicePart_ pu (wpAny_bind (wpAny_pure ?_)))))
 show wpAny _ _ (match Builtin.Slice.sliceAdjust lo hi 1 (n : Int) with | (lo, hi) => pure (lo, (1 : Int), Builtin.Slice.slicePlaces lo hi 1)) _ _ s
 rw [adjust_gen lo hi n]
 show wpAny _ _ (pure (((sIx n 0 lo : Nat) : Int), (1 : Int), Builtin.Slice.slicePlaces ((sIx n 0 lo : Nat) : Int) ((sIx n n hi : Nat) : Int) 1)) _ _ s
 rw [places_gen]
 exact wpAny_pure h
theorem pick_gen (xs : Array Value) (i k : Nat) : ((List.range k).filterMap fun (m : Nat) => xs[((i : Int) + (m : Int) * 1).toNat]?).toArray = ((xs.toList.drop i).take k).toArray := by
 have e : (fun (m : Nat) => xs[((i : Int) + (m : Int) * 1).toNat]?) = fun m => xs[i + m]? := by
  funext m
  have : ((i : Int) + (m : Int) * 1).toNat = i + m := by omega
  rw [this]
 rw [e]
 have := pick_run xs i k
 rw [List.filterMap_map] at this
 have e2 : ((fun x => xs[x]?) ∘ fun x => i + x) = fun m => xs[i + m]? := rfl
 rw [e2] at this
 rw [this]
theorem getItem_tuple_cut {t sl : Addr} {items : Array Value} {vl vu : Value} {lo hi : Option Int} {Q : Value → Shared → Prop} (ht : IsTup s.heap t items) (hs : s.heap.IsSliceOf sl vl vu .none) (pl : IsPart vl lo) (pu : IsPart vu hi)
  (hw : ¬ (sIx items.size 0 lo = 0 ∧ sIx items.size items.size hi = items.size))
  (h : Q (.ref s.heap.objs.size) { s with heap := s.heap.push { cls := .type "tuple", data := .seq ((items.toList.drop (sIx items.size 0 lo)).take (sIx items.size items.size hi - sIx items.size 0 lo)).toArray } })
  (hsz : items.size ≤ sizeLine) : wpAny (model prog w) A (getItem (.ref t) (.ref sl)) Q E s := by
 have htake : sizeOk (.seq ((items.toList.drop (sIx items.size 0 lo)).take (sIx items.size items.size hi - sIx items.size 0 lo)).toArray) := by
  show ((items.toList.drop (sIx items.size 0 lo)).take (sIx items.size items.size hi - sIx items.size 0 lo)).toArray.size ≤ sizeLine
  rw [List.size_toArray, List.length_take, List.length_drop, Array.length_toList]
  omega
 have hj : sIx items.size items.size hi ≤ items.size := sIx_le _ _ (Nat.le_refl _) hi
 obtain ⟨os, hos, hcs, hds⟩ := id hs
 have hTs : s.TypeIs (.ref sl) "slice" := ⟨os, hos, hcs⟩
 unfold getItem
 try with_reducible refine wpAny_holding ?_
 first | refine wpAny_bind (wpAny_pure ?_) | skip
 refine wpAny_bind (wpAny_sequenceKey ht.typeIs (by decide) ?_)
 refine wpAny_bind (wpAny_callSpecial?_slot (name := Str.ofString "__getitem__") ht.typeIs PyProof.Rows.slot_tuple_getitem
  (wpAny_call_entry PyProof.Rows.slot_tuple_getitem ht.typeIs entry_tuple_getitem ?_ (args_tuple_getitem _ _)))
 show wpAny _ _ (Builtin.Tuple.tupleItemsOf (.ref t) >>= _) _ _ s
 refine wpAny_bind (tupleItemsOf_ ht ?_)
 refine wpAny_bind (wpAny_typeOf hTs ?_)
 rw [if_pos (by decide)]
 refine wpAny_bind (sliceApplied_gen hs pl pu ?_)
 have hno : ¬ ((((sIx items.size 0 lo : Nat) : Int) == 0 && (1 : Int) == 1 && (sIx items.size items.size hi - sIx items.size 0 lo) == items.size) = true) := by
  intro q
  rw [Bool.and_eq_true, Bool.and_eq_true] at q
  have q1 : ((sIx items.size 0 lo : Nat) : Int) = 0 := eq_of_beq q.1.1
  have q2 : sIx items.size items.size hi - sIx items.size 0 lo = items.size := eq_of_beq q.2
  exact hw ⟨by omega, by omega⟩
 show wpAny _ _ (if (((sIx items.size 0 lo : Nat) : Int) == 0 && (1 : Int) == 1 && (sIx items.size items.size hi - sIx items.size 0 lo) == items.size) = true then _ else _) _ _ s
 rw [if_neg hno, pick_gen]
 first
  | exact wpAny_bind (m := Builtin.Tuple.tupleExact _) (wpAny_newObj_type (wpAny_pure ⟨_, rfl, wpAny_pure h⟩) htake)
  | exact wpAny_bind (m := Builtin.Tuple.tupleExact _) (wpAny_newObj_type (wpAny_bind (wpAny_pure (wpAny_pure ⟨_, rfl, wpAny_pure h⟩))) htake)
  | exact wpAny_bind (wpAny_bind (m := Builtin.Tuple.tupleExact _) (wpAny_newObj_type (wpAny_pure (wpAny_pure ⟨_, rfl, wpAny_pure h⟩)) htake))
  | exact wpAny_bind (wpAny_bind (m := Builtin.Tuple.tupleExact _) (wpAny_newObj_type (wpAny_pure ⟨_, rfl, wpAny_pure h⟩) htake))
end
end HT
namespace L2
open PySem PySem.Spec PyProof.Rows
noncomputable abbrev TO := St → Hp → (Option Int → Hp → Prop) → Prop
noncomputable def PO (X : Cx) (e : Option Expr) (t : TO) : Prop :=
 ∀ (pins : List (Addr × Obj)) (s : Shared) (σ : St) (H : Hp) (Q : Option Int → Hp → Prop), Inv X pins σ H s → t σ H Q →
  wpAny (model X.prog X.w) X.A (evalPart e X.env) (fun u s' => ∃ o H', Inv X pins σ H' s' ∧ IsPart u o ∧ Q o H') X.xe s
noncomputable def tNoPart : TO := fun _ H Q => Q none H
noncomputable def tPart (t : TE) : TO := fun σ H Q => t σ H fun x H1 => ∃ i, x = .int i ∧ Q (some i) H1
section
variable {X : Cx} {e : Expr} {te : TE} {lo hi : Option Expr} {tl th : TO} {pos p2 : Pos}
theorem po_none : PO X none tNoPart := by
 intro pins s σ H Q I h
 rw [evalPart_none]
 exact wpAny_pure ⟨none, H, I, .none, h⟩
theorem po_some (h : PE X e te) : PO X (some e) (tPart te) := by
 intro pins s σ H Q I hw
 rw [evalPart_some]
 refine thn (h pins s σ H _ I hw) fun u s1 ⟨x, H1, I1, r1, q1⟩ => ?_
 obtain ⟨i, rfl, q⟩ := q1
 obtain ⟨t, rfl⟩ := r1
 exact ⟨some i, H1, I1, .int i t, q⟩
noncomputable def SlR (X : Cx) (r : V → Option Int → Option Int → Hp → VK → Prop) : Prop :=
 ∀ (pins : List (Addr × Obj)) (s : Shared) (σ : St) (H : Hp) (x : V) (v vl vu : Value) (lo hi : Option Int) (sl : Addr) (Q : VK), Inv X pins σ H s → RelV x v → s.heap.IsSliceOf sl vl vu .none → IsPart vl lo → IsPart vu hi → r x lo hi H Q →
  ∃ T id, typeLookup (.type T) "__getitem__" = pure (some (.builtin id)) ∧ s.TypeIs v T ∧ wpAny (model X.prog X.w) X.A (getItem v (.ref sl)) (EP X pins σ Q) X.xe s
theorem SlR.or {r r' : V → Option Int → Option Int → Hp → VK → Prop} (h : SlR X r) (h' : SlR X r') : SlR X (fun x lo hi H Q => r x lo hi H Q ∨ r' x lo hi H Q) := by
 intro pins s σ H x v vl vu lo hi sl Q I rx hs pl pu q
 rcases q with q | q
 ·exact h pins s σ H x v vl vu lo hi sl Q I rx hs pl pu q
 ·exact h' pins s σ H x v vl vu lo hi sl Q I rx hs pl pu q
noncomputable def tSl (r : V → Option Int → Option Int → Hp → VK → Prop) (te : TE) (tl th : TO) : TE := fun σ H Q => te σ H fun x H1 => tl σ H1 fun l H2 => th σ H2 fun u H3 => r x l u H3 Q
theorem pe_slice {r : V → Option Int → Option Int → Hp → VK → Prop} (hr : SlR X r) (he : PE X e te) (hl : PO X lo tl) (hu : PO X hi th) : PE X (.Subscript e (.Slice lo hi none p2) pos) (tSl r te tl th) := by
 intro pins s σ H Q I h
 refine Subscript_ (thn (he pins s σ H _ I h) fun v s1 ⟨x, H1, I1, r1, q1⟩ => ?_)
 refine wpAny_Slice (thn (hl pins s1 σ H1 _ I1 q1) fun vl s2 ⟨l, H2, I2, pl, q2⟩ => thn (hu pins s2 σ H2 _ I2 q2) fun vu s3 ⟨u, H3, I3, pu, q3⟩ => ?_)
 rw [evalPart_none]
 refine wpAny_pure ?_
 have I4 : Inv X pins σ H3 { s3 with heap := s3.heap.push { cls := .type "slice", data := .fields #[vl, vu, .none] } } := I3.kept (t' := s3.toks) fun b ob q => Heap.get?_push_of_some _ q
 obtain ⟨T, id, hT, ht, hg⟩ := hr pins { s3 with heap := s3.heap.push { cls := .type "slice", data := .fields #[vl, vu, .none] } } σ H3 x v vl vu l u s3.heap.objs.size Q I4 r1 (Heap.IsSliceOf.new ..) pl pu q3
 show wpAny (model X.prog X.w) X.A (subscriptTail e (.Slice lo hi none p2) v (.ref s3.heap.objs.size)) (EP X pins σ Q) X.xe { s3 with heap := s3.heap.push { cls := .type "slice", data := .fields #[vl, vu, .none] } }
 exact tail_any (ops := [.ref s3.heap.objs.size, v]) ht hT hg (by with_unfolding_all rfl)
noncomputable def cutV (xs : List V) (lo hi : Option Int) : List V := (xs.drop (HT.sIx xs.length 0 lo)).take (HT.sIx xs.length xs.length hi - HT.sIx xs.length 0 lo)
theorem cutV_length (xs : List V) (lo hi : Option Int) : (cutV xs lo hi).length ≤ xs.length := by
 unfold cutV
 rw [List.length_take, List.length_drop]
 omega
noncomputable def rSlT (K : PySem.W.Frag) : V → Option Int → Option Int → Hp → VK → Prop := fun x lo hi H Q => ∃ a xs, x = .ref a ∧ SqT K H a xs ∧
 ¬ (HT.sIx xs.length 0 lo = 0 ∧ HT.sIx xs.length xs.length hi = xs.length) ∧ ∀ p, H p = none → Q (.ref p) (upd H p (.tup (cutV xs lo hi)))
theorem sl_tup : SlR X (rSlT X.K) := by
 intro pins s σ H x v vl vu lo hi sl Q I rx hs pl pu h
 obtain ⟨a, xs, rfl, hx, hw, q⟩ := h
 cases rx
 obtain ⟨its, r, ht, hz⟩ := I.tuple hx
 have hlen : its.toArray.size = xs.length := by rw [List.size_toArray]; exact r.length.symm
 refine ⟨"tuple", _, PyProof.Rows.slot_tuple_getitem.lookup, ht.typeIs, ?_⟩
 refine HT.getItem_tuple_cut ht hs pl pu (by rw [hlen]; exact hw) ?_ (by rw [hlen]; exact hz)
 rw [hlen]
 refine ⟨.ref s.heap.objs.size, _, I.laid (t' := s.toks) (o := .tup (cutV xs lo hi)) (fun b ob q => Heap.get?_push_of_some _ q) (Nat.le_refl _) ?_, rfl, q _ (I.hok.fresh (Nat.le_refl _))⟩
 exact ⟨Nat.le_trans (cutV_length xs lo hi) hz, _, (r.drop (HT.sIx xs.length 0 lo)).take (HT.sIx xs.length xs.length hi - HT.sIx xs.length 0 lo), IsTup.new _ _⟩
noncomputable def rCatT (K : PySem.W.Frag) : R2 := fun x y H Q => ∃ a b xs ys, x = .ref a ∧ y = .ref b ∧ SqT K H a xs ∧ SqT K H b ys ∧ xs ≠ [] ∧ xs.length + ys.length ≤ sizeLine ∧
 (ys = [] → Q (.ref a) H) ∧ (ys ≠ [] → ∀ p, H p = none → Q (.ref p) (upd H p (.tup (xs ++ ys))))
theorem Vals.nil_iff {xs : List V} {us : List Value} (r : Vals xs us) : us = [] ↔ xs = [] := by
 cases r with
 | nil => simp
 | cons _ _ => simp
theorem op_catT : OpR X (binaryOp .Add) (rCatT X.K) := by
 intro pins s σ H x y v u Q I rx ry h
 obtain ⟨a, b, xs, ys, rfl, rfl, ha, hb, hx, hz, q1, q2⟩ := h
 cases rx
 cases ry
 obtain ⟨its, r1, p1, _⟩ := I.tuple ha
 obtain ⟨its2, r2, p2, _⟩ := I.tuple hb
 refine HT.cat_tup p1 p2 (fun z => hx (r1.nil_iff.mp z)) (fun z => ⟨.ref a, H, I, rfl, q1 (r2.nil_iff.mp z)⟩) (fun z => ?_) (by rw [← r1.length, ← r2.length]; exact hz)
 refine ⟨.ref s.heap.objs.size, _, I.laid (t' := s.toks) (o := .tup (xs ++ ys)) (fun b ob q => Heap.get?_push_of_some _ q) (Nat.le_refl _) ?_, rfl, q2 (fun w => z (r2.nil_iff.mpr w)) _ (I.hok.fresh (Nat.le_refl _))⟩
 exact ⟨by rw [List.length_append]; exact hz, _, r1.append r2, IsTup.new _ _⟩
end
end L2
namespace L2
open PySem PySem.Spec PyProof.Rows
noncomputable def ixN (n : Nat) (i : Int) : Option Nat := if 0 ≤ i then (if i < n then some i.toNat else none) else if -(n : Int) ≤ i then some (i + n).toNat else none
noncomputable def atI {α : Type} (xs : List α) (i : Int) : Option α := (ixN xs.length i).bind fun j => xs[j]?
theorem ixN_seq {n : Nat} {i : Int} {j : Nat} (h : ixN n i = some j) : seqIndex? i n = some j ∧ j < n ∧ -(n : Int) ≤ i ∧ i < n := by
 unfold ixN at h
 by_cases h0 : 0 ≤ i
 ·rw [if_pos h0] at h
  by_cases h1 : i < n
  ·rw [if_pos h1] at h
   have e : i.toNat = j := Option.some.inj h
   exact ⟨by rw [seqIndex_of h0 h1, e], by omega, by omega, h1⟩
  ·rw [if_neg h1] at h; cases h
 ·rw [if_neg h0] at h
  by_cases h1 : -(n : Int) ≤ i
  ·rw [if_pos h1] at h
   have e : (i + n).toNat = j := Option.some.inj h
   exact ⟨by rw [seqIndex_neg (by omega) h1, e], by omega, h1, by omega⟩
  ·rw [if_neg h1] at h; cases h
theorem atI_get {α : Type} {xs : List α} {i : Int} {v : α} (h : atI xs i = some v) : ∃ j, seqIndex? i xs.length = some j ∧ xs[j]? = some v ∧ j < xs.length ∧ -(xs.length : Int) ≤ i ∧ i < xs.length := by
 unfold atI at h
 cases e : ixN xs.length i with
 | none => rw [e] at h; cases h
 | some j =>
  rw [e] at h
  obtain ⟨h1, h2, h3, h4⟩ := ixN_seq e
  exact ⟨j, h1, h, h2, h3, h4⟩
theorem atI_nat {α : Type} {xs : List α} {j : Nat} {v : α} (h : xs[j]? = some v) : atI xs (j : Int) = some v := by
 have hj : j < xs.length := (List.getElem?_eq_some_iff.mp h).1
 have e : ixN xs.length (j : Int) = some j := by
  unfold ixN
  rw [if_pos (by omega), if_pos (by omega)]; simp
 unfold atI; rw [e]; exact h
theorem atI_last {α : Type} (xs : List α) (v : α) : atI (xs ++ [v]) (-1) = some v := by
 have hl : (xs ++ [v]).length = xs.length + 1 := by simp
 have e : ixN (xs ++ [v]).length (-1) = some xs.length := by
  unfold ixN
  rw [hl, if_neg (by decide), if_pos (by omega)]
  congr 1
  omega
 unfold atI
 rw [e]
 show (xs ++ [v])[xs.length]? = some v
 simp
noncomputable def PlainIx (b : Expr) : Prop := ∀ o i, subscripted b false o i = operate [o, i] (getItem o i)
noncomputable def IxR (X : Cx) (r : R2) : Prop :=
 ∀ (value slice : Expr) (pins : List (Addr × Obj)) (s : Shared) (σ : St) (H : Hp) (x y : V) (v u : Value) (Q : VK), Inv X pins σ H s → RelV x v → RelV y u → r x y H Q →
  subscripted slice false v u = operate [v, u] (getItem v u) → wpAny (model X.prog X.w) X.A (subscriptTail value slice v u) (EP X pins σ Q) X.xe s
noncomputable def MtR (X : Cx) (id : String) (r : V → List V → Hp → VK → Prop) : Prop :=
 ∀ (pins : List (Addr × Obj)) (s : Shared) (σ : St) (H : Hp) (x : V) (xs : List V) (v : Value) (us : List Value) (Q : VK), Inv X pins σ H s → RelV x v → Vals xs us → r x xs H Q →
  wpAny (model X.prog X.w) X.A (call (.builtin id) (v :: us)) (EP X pins σ Q) X.xe s
section
variable {X : Cx} {a b : Expr} {ta tb : TE} {pos : Pos}
theorem IxR.or {r r' : R2} (h : IxR X r) (h' : IxR X r') : IxR X (fun x y H Q => r x y H Q ∨ r' x y H Q) := by
 intro value slice pins s σ H x y v u Q I rx ry q hs
 rcases q with q | q
 ·exact h value slice pins s σ H x y v u Q I rx ry q hs
 ·exact h' value slice pins s σ H x y v u Q I rx ry q hs
theorem pe_ix {r : R2} (hr : IxR X r) (ha : PE X a ta) (hb : PE X b tb) (hs : PlainIx b) : PE X (.Subscript a b pos) (tOp r ta tb) := by
 intro pins s σ H Q I h
 exact Subscript_ (binT ha hb I h fun v u s2 x y H2 I2 rx ry q => hr a b pins s2 σ H2 x y v u Q I2 rx ry q (hs _ _))
noncomputable def rIxL (K : PySem.W.Frag) : R2 := fun x y H Q => ∃ p xs i v, x = .ref p ∧ y = .int i ∧ SqL K H p xs ∧ atI xs i = some v ∧ Q v H
noncomputable def rIxT (K : PySem.W.Frag) : R2 := fun x y H Q => ∃ p xs i v, x = .ref p ∧ y = .int i ∧ SqT K H p xs ∧ atI xs i = some v ∧ Q v H
noncomputable def rIxS : R2 := fun x y H Q => ∃ z i c, x = .str z ∧ y = .int i ∧ z.length ≤ sizeLine ∧ atI z.cps.toList i = some c ∧ Q (.str ⟨#[c]⟩) H
theorem ix_list : IxR X (rIxL X.K) := by
 intro value slice pins s σ H x y v u Q I rx ry h hs
 obtain ⟨p, xs, i, z, rfl, rfl, hq, he, q⟩ := h
 cases rx
 obtain ⟨t, rfl⟩ := ry
 obtain ⟨its, r, pl, hz⟩ := I.list hq
 obtain ⟨j, h1, h2, h3, h4, h5⟩ := atI_get he
 obtain ⟨w, ew, rw'⟩ := r.get h2
 have hl := r.length
 have hn := line63
 have fin : EP X pins σ Q w s := ⟨z, H, I, rw', q⟩
 by_cases h0 : 0 ≤ i
 ·have hj : i.toNat = j := by
   rw [seqIndex_of h0 h5] at h1
   exact Option.some.inj h1
  exact item_listR pl.isList h0 (by omega) (by rw [hj]; simpa using ew) fin hs
 ·have hj : (i + (its.toArray.size : Int)).toNat = j := by
   rw [seqIndex_neg (by omega) h4] at h1
   rw [List.size_toArray, ← hl]
   exact Option.some.inj h1
  exact subscriptTail_builtinR (x := w) pl.isList.typeIs slot_list_getitem.lookup
   (wpAny_getItem_list_neg (Q := fun r s' => r = w ∧ EP X pins σ Q r s') pl.isList (by omega) (by rw [List.size_toArray] <;> omega) (by omega) (by rw [hj]; simpa using ew) ⟨rfl, fin⟩) hs
theorem ix_tup : IxR X (rIxT X.K) := by
 intro value slice pins s σ H x y v u Q I rx ry h hs
 obtain ⟨p, xs, i, z, rfl, rfl, hq, he, q⟩ := h
 cases rx
 obtain ⟨t, rfl⟩ := ry
 obtain ⟨its, r, pl, hz⟩ := I.tuple hq
 obtain ⟨j, h1, h2, h3, h4, h5⟩ := atI_get he
 obtain ⟨w, ew, rw'⟩ := r.get h2
 have hl := r.length
 have hn := line63
 have fin : EP X pins σ Q w s := ⟨z, H, I, rw', q⟩
 exact subscriptTail_builtinR (x := w) pl.typeIs slot_tuple_getitem.lookup
  (getItem_tuple (j := j) (Q := fun r s' => r = w ∧ EP X pins σ Q r s') pl (by omega) (by omega) (by rw [List.size_toArray, ← hl]; exact h1) (by simpa using ew) ⟨rfl, fin⟩) hs
theorem ix_str : IxR X rIxS := by
 intro value slice pins s σ H x y v u Q I rx ry h hs
 obtain ⟨z, i, c, rfl, rfl, hz, he, q⟩ := h
 obtain ⟨t, rfl⟩ := rx
 obtain ⟨t', rfl⟩ := ry
 obtain ⟨j, h1, h2, h3, h4, h5⟩ := atI_get he
 have hl : z.cps.toList.length = z.length := by simp [Str.length]
 rw [hl] at h1 h4 h5
 have hn := line63
 exact tail_any (typeIs_str s z t) slot_str_getitem.lookup (getItem_str (c := c) (by
  have e1 : decide (i < -(2 ^ 63 : Int)) = false := decide_eq_false (by omega)
  have e2 : decide (i ≥ 2 ^ 63) = false := decide_eq_false (by omega)
  rw [e1, e2, Bool.or_false]) (by rw [h1]; simpa using h2) ⟨.str ⟨#[c]⟩, H, I.tok _, ⟨_, rfl⟩, q⟩) hs
noncomputable def rIx (K : PySem.W.Frag) : R2 := fun x y H Q => rIxL K x y H Q ∨ rIxT K x y H Q ∨ rIxS x y H Q
theorem ix_seq : IxR X (rIx X.K) := ix_list.or (ix_tup.or ix_str)
theorem slice_bounds (lo hi : Option Int) (n : Nat) : (sliceBounds lo hi none n).1 = ((HT.sIx n 0 lo : Nat) : Int) ∧ (sliceBounds lo hi none n).2.1 = ((HT.sIx n n hi : Nat) : Int) ∧ (sliceBounds lo hi none n).2.2 = 1 := by
 refine ⟨?_, ?_, rfl⟩
 ·cases lo with
  | none => simp [sliceBounds, HT.sIx]
  | some i =>
   simp only [sliceBounds, HT.sIx, Option.getD_none, show (1 : Int) > 0 by decide, if_true]
   by_cases h : i < 0
   ·simp only [h, if_true] <;> omega
   ·simp only [h, if_false] <;> omega
 ·cases hi with
  | none => simp [sliceBounds, HT.sIx]
  | some i =>
   simp only [sliceBounds, HT.sIx, Option.getD_none, show (1 : Int) > 0 by decide, if_true]
   by_cases h : i < 0
   ·simp only [h, if_true] <;> omega
   ·simp only [h, if_false] <;> omega
theorem slicePick_cut (its : List Value) (lo hi : Option Int) : slicePick its.toArray lo hi none = ((its.drop (HT.sIx its.length 0 lo)).take (HT.sIx its.length its.length hi - HT.sIx its.length 0 lo)).toArray := by
 obtain ⟨h1, h2, h3⟩ := slice_bounds lo hi its.toArray.size
 unfold slicePick
 rw [h1, h2, h3]
 simp only [sliceRange_one, pick_run, List.size_toArray] <;> rfl
noncomputable def rSlL (K : PySem.W.Frag) : V → Option Int → Option Int → Hp → VK → Prop := fun x lo hi H Q => ∃ a xs, x = .ref a ∧ SqL K H a xs ∧ ∀ p, H p = none → Q (.ref p) (upd H p (.lst (cutV xs lo hi)))
theorem sl_list : SlR X (rSlL X.K) := by
 intro pins s σ H x v vl vu lo hi sl Q I rx hs pl pu h
 obtain ⟨a, xs, rfl, hx, q⟩ := h
 cases rx
 obtain ⟨its, r, ht, hz⟩ := I.list hx
 have hlen := r.length
 refine ⟨"list", _, slot_list_getitem.lookup, ht.isList.typeIs, ?_⟩
 refine wpAny_getItem_list_slice ht.isList hs pl pu .none (by simp) ?_ (by rw [List.size_toArray] <;> omega)
 rw [slicePick_cut, ← hlen]
 refine ⟨.ref s.heap.objs.size, _, I.laid (t' := s.toks) (o := .lst (cutV xs lo hi)) (fun b ob q => Heap.get?_push_of_some _ q) (Nat.le_refl _) ?_, rfl, q _ (I.hok.fresh (Nat.le_refl _))⟩
 exact ⟨Nat.le_trans (cutV_length xs lo hi) hz, _, 0, (r.drop (HT.sIx xs.length 0 lo)).take (HT.sIx xs.length xs.length hi - HT.sIx xs.length 0 lo), Heap.get?_push_size _ rfl⟩
noncomputable def flatV : V → Bool
 | .non => true
 | .bl _ => true
 | .int _ => true
 | .str _ => true
 | _ => false
noncomputable def eqV : V → V → Bool
 | .non, .non => true
 | .bl a, .bl b => a == b
 | .bl a, .int b => (if a then 1 else 0) == b
 | .int a, .bl b => a == (if b then 1 else 0)
 | .int a, .int b => a == b
 | .str a, .str b => a == b
 | _, _ => false
theorem eqAt_V {A : Around} {s : Shared} {y x : V} {u v : Value} (ry : RelV y u) (rx : RelV x v) (fy : flatV y = true) (fx : flatV x = true) : SeqAt.EqAt A s u v (eqV y x) := by
 cases y with
 | non =>
  cases ry
  cases x with
  | non => cases rx; exact SeqAt.EqAt.same _
  | bl b => cases rx; exact SeqAt.EqAt.none_bool b
  | int b => obtain ⟨t, rfl⟩ := rx; exact SeqAt.EqAt.none_int b t
  | str b => obtain ⟨t, rfl⟩ := rx; exact SeqAt.EqAt.none_str b t
  | _ => exact absurd (show false = true from fx) Bool.false_ne_true
 | bl a =>
  cases ry
  cases x with
  | non => cases rx; exact SeqAt.EqAt.bool_none a
  | bl b => cases rx; exact SeqAt.EqAt.bool_bool a b
  | int b => obtain ⟨t, rfl⟩ := rx; exact SeqAt.EqAt.bool_int a b t
  | str b => obtain ⟨t, rfl⟩ := rx; exact SeqAt.EqAt.bool_str a b t
  | _ => exact absurd (show false = true from fx) Bool.false_ne_true
 | int a =>
  obtain ⟨t', rfl⟩ := ry
  cases x with
  | non => cases rx; exact SeqAt.EqAt.int_none a t'
  | bl b => cases rx; exact SeqAt.EqAt.int_bool a t' b
  | int b => obtain ⟨t, rfl⟩ := rx; exact SeqAt.EqAt.int_int a t' b t
  | str b => obtain ⟨t, rfl⟩ := rx; exact SeqAt.EqAt.int_str a t' b t
  | _ => exact absurd (show false = true from fx) Bool.false_ne_true
 | str a =>
  obtain ⟨t', rfl⟩ := ry
  cases x with
  | non => cases rx; exact SeqAt.EqAt.str_none a t'
  | bl b => cases rx; exact SeqAt.EqAt.str_bool a t' b
  | int b => obtain ⟨t, rfl⟩ := rx; exact SeqAt.EqAt.str_int a t' b t
  | str b => obtain ⟨t, rfl⟩ := rx; exact SeqAt.EqAt.str_str a t' b t
  | _ => exact absurd (show false = true from fx) Bool.false_ne_true
 | _ => exact absurd (show false = true from fy) Bool.false_ne_true
noncomputable def eqU (x : V) (u : Value) : Bool := match u with
 | .none => eqV .non x
 | .bool b => eqV (.bl b) x
 | .int i _ => eqV (.int i) x
 | .str z _ => eqV (.str z) x
 | _ => false
theorem eqU_of {x y : V} {u : Value} (r : RelV y u) (f : flatV y = true) : eqU x u = eqV y x := by
 cases y with
 | non => cases r; rfl
 | bl b => cases r; rfl
 | int i => obtain ⟨t, rfl⟩ := r; rfl
 | str z => obtain ⟨t, rfl⟩ := r; rfl
 | _ => exact absurd (show false = true from f) Bool.false_ne_true
theorem any_eqU {x : V} : ∀ {xs : List V} {us : List Value}, Vals xs us → xs.all flatV = true → us.any (eqU x) = xs.any fun y => eqV y x
 | _, _, .nil, _ => rfl
 | y :: xs, u :: us, .cons r t, f => by
  rw [List.all_cons, Bool.and_eq_true] at f
  rw [List.any_cons, List.any_cons, eqU_of r f.1, any_eqU t f.2]
theorem mem_eqAt {A : Around} {s : Shared} {x : V} {v : Value} (rx : RelV x v) (fx : flatV x = true) : ∀ {xs : List V} {us : List Value}, Vals xs us → xs.all flatV = true → ∀ u ∈ us, SeqAt.EqAt A s u v (eqU x u)
 | _, _, .nil, _ => fun u hu => by cases hu
 | y :: xs, u :: us, .cons r t, f => fun u' hu => by
  rw [List.all_cons, Bool.and_eq_true] at f
  rcases List.mem_cons.mp hu with rfl | hu
  ·rw [eqU_of r f.1]; exact eqAt_V r rx f.1 fx
  ·exact mem_eqAt rx fx t f.2 u' hu
noncomputable def inV (x : V) (xs : List V) : Bool := xs.any fun y => eqV y x
noncomputable def rIn (K : PySem.W.Frag) (neg : Bool) : R2 := fun x y H Q => ∃ p xs, y = .ref p ∧ (SqL K H p xs ∨ SqT K H p xs) ∧ flatV x = true ∧ xs.all flatV = true ∧ Q (.bl (if neg then !inV x xs else inV x xs)) H
theorem op_in_seq : OpR X (compareOp .In) (rIn X.K false) := by
 intro pins s σ H x y v u Q I rx ry h
 obtain ⟨p, xs, rfl, hq, fx, fs, q⟩ := h
 cases ry
 rcases hq with hq | hq
 ·obtain ⟨its, r, pl, hz⟩ := I.list hq
  refine SeqAt.in_listAt (eqU x) pl.isList (fun w hw => mem_eqAt rx fx r fs w (by simpa using hw)) ⟨.bl _, H, I, rfl, ?_⟩
  rw [show its.toArray.any (eqU x) = its.any (eqU x) by simp, any_eqU r fs]
  exact q
 ·obtain ⟨its, r, pl, hz⟩ := I.tuple hq
  refine SeqAt.in_tupleAt (eqU x) pl (fun w hw => mem_eqAt rx fx r fs w (by simpa using hw)) ⟨.bl _, H, I, rfl, ?_⟩
  rw [show its.toArray.any (eqU x) = its.any (eqU x) by simp, any_eqU r fs]
  exact q
theorem call_len_seq : CallR X (.builtin "len") (fun xs H Q => ∃ p ys, xs = [.ref p] ∧ (SqL X.K H p ys ∨ SqT X.K H p ys) ∧ Q (.int ys.length) H) := by
 intro pins s σ H xs us Q I r h
 obtain ⟨p, ys, rfl, hq, q⟩ := h
 obtain ⟨u, rfl, rx⟩ := vals1 r
 cases rx
 have hn := line63
 rcases hq with hq | hq
 ·obtain ⟨its, r', pl, hz⟩ := I.list hq
  have hlen := r'.length
  exact Calls.call_len_list pl.isList (by simp only [List.size_toArray] <;> omega) ⟨.int ys.length, H, I.tok _, ⟨s.toks + 1, by rw [List.size_toArray, hlen]⟩, q⟩
 ·obtain ⟨its, r', pl, hz⟩ := I.tuple hq
  have hlen := r'.length
  exact len_tuple pl (by simp only [List.size_toArray] <;> omega) ⟨.int ys.length, H, I.tok _, ⟨s.toks + 1, by rw [List.size_toArray, hlen]⟩, q⟩
theorem call_len_str : CallR X (.builtin "len") (fun xs H Q => ∃ z, xs = [.str z] ∧ z.length ≤ sizeLine ∧ Q (.int z.length) H) := by
 intro pins s σ H xs us Q I r h
 obtain ⟨z, rfl, hz, q⟩ := h
 obtain ⟨u, rfl, t, rfl⟩ := vals1 r
 have hn := line63
 exact len_str (by omega) ⟨.int z.length, H, I.tok _, ⟨_, rfl⟩, q⟩
theorem CallR.or {f : Value} {r r' : List V → Hp → VK → Prop} (h : CallR X f r) (h' : CallR X f r') : CallR X f (fun xs H Q => r xs H Q ∨ r' xs H Q) := by
 intro pins s σ H xs us Q I rs q
 rcases q with q | q
 ·exact h pins s σ H xs us Q I rs q
 ·exact h' pins s σ H xs us Q I rs q
theorem call_list_of : CallR X (.type "list") (fun xs H Q => ∃ p ys, xs = [.ref p] ∧ (SqL X.K H p ys ∨ SqT X.K H p ys) ∧ ∀ l, H l = none → Q (.ref l) (upd H l (.lst ys))) := by
 intro pins s σ H xs us Q I r h
 obtain ⟨p, ys, rfl, hq, q⟩ := h
 obtain ⟨u, rfl, rx⟩ := vals1 r
 cases rx
 have fin : ∀ (its : List Value), Vals ys its → ys.length ≤ sizeLine → ∀ (h' : Heap) (c' : Nat), (∀ b o', s.heap.get? b = some o' → h'.get? b = some o') →
   h'.get? s.heap.objs.size = some { cls := .type "list", dict := none, data := .seq its.toArray c', slots := #[] } → EP X pins σ Q (.ref s.heap.objs.size) { s with heap := h' } := fun its r' hz h' c' kp e =>
  ⟨.ref s.heap.objs.size, _, I.laid (t' := s.toks) kp (Nat.le_refl _) (show ObjOk X.prog X.w _ h' _ (.lst ys) from ⟨hz, its, c', r', e⟩), rfl, q _ (I.hok.fresh (Nat.le_refl _))⟩
 rcases hq with hq | hq
 ·obtain ⟨its, r', pl, hz⟩ := I.list hq
  have hlen := r'.length
  obtain ⟨o, ho, hc, n, hd⟩ := pl.isList
  exact call_list_seq p (.inl rfl) ho hc hd (fun h' c' kp e => fin its r' hz h' c' kp e) (by simp only [List.size_toArray] <;> omega)
 ·obtain ⟨its, r', pl, hz⟩ := I.tuple hq
  have hlen := r'.length
  obtain ⟨o, ho, hc, n, hd⟩ := pl
  exact call_list_seq p (.inr rfl) ho hc hd (fun h' c' kp e => fin its r' hz h' c' kp e) (by simp only [List.size_toArray] <;> omega)
noncomputable def tyV (K : PySem.W.Frag) (T : String) (x : V) (H : Hp) : Prop := match x with
 | .str _ => T = "str"
 | .int _ => T = "int"
 | .ref p => (T = "list" ∧ ∃ xs, SqL K H p xs) ∨ (T = "tuple" ∧ ∃ o, K.lookup p = some o ∧ o.cls = .type "tuple" ∧ o.dict = none) ∨
   (T = "dict" ∧ ((∃ kvs, H p = some (.dK kvs)) ∨ ∃ kvs, H p = some (.dT kvs))) ∨ (T = "set" ∧ ∃ S n, H p = some (.set S n))
 | _ => False
theorem tyV_is {pins : List (Addr × Obj)} {σ : St} {H : Hp} {s : Shared} {T : String} {x : V} {v : Value} (I : Inv X pins σ H s) (r : RelV x v) (ty : tyV X.K T x H) :
  s.TypeIs v T ∧ ∀ a, v = .ref a → ∃ ob, s.heap.get? a = some ob ∧ ob.dict = none := by
 cases x with
 | str z =>
  obtain ⟨t, rfl⟩ := r
  cases (show T = "str" from ty)
  exact ⟨typeIs_str s z t, fun _ e => nomatch e⟩
 | int i =>
  obtain ⟨t, rfl⟩ := r
  cases (show T = "int" from ty)
  exact ⟨typeIs_int s i t, fun _ e => nomatch e⟩
 | ref p =>
  cases r
  rcases ty with ⟨rfl, xs, hq⟩ | ⟨rfl, o, hk, hc, hd⟩ | ⟨rfl, hk⟩ | ⟨rfl, S, n, hk⟩
  ·obtain ⟨its, _, pl, _⟩ := I.list hq
   refine ⟨pl.isList.typeIs, fun a e => ?_⟩
   cases e
   obtain ⟨o, n, e, c, hd, _⟩ := pl
   exact ⟨o, e, hd⟩
  ·refine ⟨⟨o, I.kIn p o hk, hc⟩, fun a e => ?_⟩
   cases e
   exact ⟨o, I.kIn _ o hk, hd⟩
  ·have z : ∃ o, s.heap.get? p = some o ∧ o.ExactDict := by
    rcases hk with ⟨kvs, hk⟩ | ⟨kvs, hk⟩
    ·obtain ⟨_, _, _, _, o, _, _, e, ex, _⟩ := I.hok p _ hk
     exact ⟨o, e, ex⟩
    ·obtain ⟨_, _, _, _, o, _, _, e, ex, _⟩ := I.hok p _ hk
     exact ⟨o, e, ex⟩
   obtain ⟨o, e, ex⟩ := z
   refine ⟨⟨o, e, ex.1⟩, fun a e2 => ?_⟩
   cases e2
   exact ⟨o, e, ex.2.1⟩
  ·obtain ⟨o, _, _, _, e, ex, _⟩ := I.hok p _ hk
   refine ⟨⟨o, e, ex.1⟩, fun a e2 => ?_⟩
   cases e2
   exact ⟨o, e, ex.2.1⟩
 | _ => exact False.elim ty
noncomputable def tBM0 (K : PySem.W.Frag) (T : String) (r : V → List V → Hp → VK → Prop) (to : TE) : TE := fun σ H Q => to σ H fun x H1 => tyV K T x H1 ∧ r x [] H1 Q
noncomputable def tBM (K : PySem.W.Frag) (T : String) (r : V → List V → Hp → VK → Prop) (to : TE) (t : TA) : TE := fun σ H Q => to σ H fun x H1 => tyV K T x H1 ∧ t σ H1 fun xs H2 => r x xs H2 Q
variable {o e : Expr} {es : List Expr} {to : TE} {t : TA} {name : Str} {apos cpos : Pos} {T id : String} {r : V → List V → Hp → VK → Prop}
theorem pe_bm (pa : PlainAttrs T) (slot : Slot T name id) (hty : typeOf (.builtin id) = pure (.type "method_descriptor")) (hm : MtR X id r) (ho : PE X o to) (ha : PA X (e :: es) t)
  (hbase : attributeBase o name X.env (eval o X.env) = eval o X.env := by rfl)
  (hfew : ((backTo cpos (starEach (e :: es) X.env)).all (fun x => !x.1) && (backToKw cpos (keywordEach [] X.env)).all (fun x => x.1.isSome)
   && decide ((e :: es).length + ([] : List Keyword).length + (if ([] : List Keyword).isEmpty then 0 else 1) < 30)) = true := by rfl)
  (hline : (apos.endLine == cpos.line) = true := by rfl) (hs : starEach (e :: es) X.env = (false, eval e X.env) :: starEach es X.env := by rfl) (hplain : (backTo cpos (starEach es X.env)).any (·.1) = false := by rfl) :
  PE X (.Call (.Attribute o name apos) (e :: es) [] cpos) (tBM X.K T r to t) := by
 intro pins s σ H Q I h
 refine wpAny_Call_method_late hbase hfew hline rfl (thn (ho pins s σ H _ I h) fun v s1 ⟨x, H1, I1, r1, ty, q1⟩ => ?_)
 obtain ⟨h1, h2⟩ := tyV_is I1 r1 ty
 refine ⟨T, id, pa, slot, hty, h1, h2, ?_⟩
 have hA := ha cpos pins s1 σ H1 _ I1 q1
 rw [hs] at hA ⊢
 refine Calls.callWith_builtin (by show (false || (backTo cpos (starEach es X.env)).any (·.1)) = false; rw [hplain] <;> rfl) (Calls.evalArgs_plain ?_)
 exact thn hA fun us s2 ⟨vs, H2, I2, r2, q2⟩ => hm pins s2 σ H2 x vs v us Q I2 r1 r2 q2
/- xs.append(e), list.index on a module's tuple .. are MtR facts of 06m -/
end
end L2
namespace L2
open PySem PySem.Spec PyProof.Rows
noncomputable def MtM (X : Cx) (id : String) (r : V → List V → Hp → VK → Prop) : Prop :=
 ∀ (pins : List (Addr × Obj)) (s : Shared) (σ : St) (H : Hp) (x : V) (xs : List V) (v : Value) (us : List Value) (Q : VK), Inv X pins σ H s → RelV x v → Vals xs us → r x xs H Q →
  wpAny (model X.prog X.w) X.A (call (.builtin id) (v :: us)) (EP X pins σ Q) X.xe s
theorem Vals.one : ∀ {x : V} {us : List Value}, Vals [x] us → ∃ u, us = [u] ∧ RelV x u
 | _, _, .cons r .nil => ⟨_, rfl, r⟩
section
variable {X : Cx} {pins : List (Addr × Obj)} {σ : St} {H : Hp} {s : Shared} {l b : Addr} {xs ys zs : List V}
theorem Inv.lset {its its' : List Value} {n : Nat} {f : Array Value → Array Value} {t' : Nat} (I : Inv X pins σ H s) (hH : H l = some (.lst xs))
  (e : s.heap.get? l = some { cls := .type "list", data := .seq its.toArray n }) (hf : f its.toArray = its'.toArray) (hv : Vals ys its') (hz : ys.length ≤ sizeLine) :
  Inv X pins σ (upd H l (.lst ys)) { s with heap := s.heap.update l (Obj.mapSeq f), toks := t' } := by
 have q := PySem.IsL.update e f
 rw [hf] at q
 refine I.write (x := l) (e := l) (by rw [hH]; exact trivial) (.inl rfl) (fun b' u hb hu => (Heap.get?_update_other s.heap (Obj.mapSeq f) (Ne.symm hb)).trans hu) ⟨_, q⟩ ?_
 exact ⟨hz, its', _, hv, q⟩
theorem Inv.lnew {its : List Value} {t' : Nat} (I : Inv X pins σ H s) (hv : Vals ys its) (hz : ys.length ≤ sizeLine) :
  Inv X pins σ (upd H s.heap.objs.size (.lst ys)) { s with heap := s.heap.push { cls := .type "list", data := .seq its.toArray }, toks := t' } :=
 I.laid (fun _ _ q => Heap.get?_push_of_some _ q) (Nat.le_refl _) ⟨hz, its, 0, hv, Heap.get?_push_size _ rfl⟩
theorem Inv.fresh (I : Inv X pins σ H s) : H s.heap.objs.size = none := I.hok.fresh (Nat.le_refl _)
theorem Inv.lstM (I : Inv X pins σ H s) (hH : H l = some (.lst xs)) : xs.length ≤ sizeLine ∧ ∃ (its : List Value) (n : Nat), Vals xs its ∧ xs.length = its.length ∧ s.heap.get? l = some { cls := .type "list", data := .seq its.toArray n } := by
 obtain ⟨z, its, n, r, e⟩ := I.hok l _ hH
 exact ⟨z, its, n, r, r.length, e⟩
end
section
variable {X : Cx}
noncomputable def rAppend : V → List V → Hp → VK → Prop := fun x vs H Q => ∃ l xs y, x = .ref l ∧ vs = [y] ∧ H l = some (.lst xs) ∧ xs.length < sizeLine ∧ Q .non (upd H l (.lst (xs ++ [y])))
theorem mt_append : MtM X "list.append" rAppend := by
 intro pins s σ H x vs v us Q I rx rv h
 obtain ⟨l, xs, y, rfl, rfl, hH, hz, q⟩ := h
 cases rx
 obtain ⟨u, rfl, ru⟩ := rv.one
 obtain ⟨z, its, n, r, hl, e⟩ := I.lstM hH
 refine call_meets F.slot_list_append ⟨_, e, rfl⟩ F.entry_list_append (F.args_list_append_2 _ _) (PySem.list_append l its.toArray n u (by rw [List.size_toArray]; omega)) ⟨e, ?_⟩
 refine ⟨.non, _, I.lset (its' := its ++ [u]) hH e (by simp) (r.append (.cons ru .nil)) ?_, rfl, q⟩
 rw [List.length_append, List.length_singleton]
 omega
noncomputable def rCat : R2 := fun x y H Q => ∃ l b xs zs, x = .ref l ∧ y = .ref b ∧ H l = some (.lst xs) ∧ H b = some (.lst zs) ∧ xs.length + zs.length ≤ sizeLine ∧ ∀ p, H p = none → Q (.ref p) (upd H p (.lst (xs ++ zs)))
theorem op_cat : OpR X (binaryOp .Add) rCat := by
 intro pins s σ H x y v u Q I rx ry h
 obtain ⟨l, b, xs, zs, rfl, rfl, hH, hB, hz, q⟩ := h
 cases rx
 cases ry
 obtain ⟨z, its, n, r, hl, e⟩ := I.lstM hH
 obtain ⟨z2, its2, n2, r2, hl2, e2⟩ := I.lstM hB
 refine PySem.P.add_list e e2 ?_ (by rw [List.size_toArray, List.size_toArray]; omega)
 have ea : its.toArray ++ its2.toArray = (its ++ its2).toArray := by simp
 rw [ea]
 exact ⟨.ref _, _, I.lnew (t' := s.toks) (r.append r2) (by rw [List.length_append]; omega), rfl, q _ I.fresh⟩
end
section
variable {prog : Program} {w : World} {A : Around} {E : Value → Shared → Prop} {s : Shared}
end
section
variable {X : Cx}
end
end L2
namespace Att
open PySem PySem.W PySem.Calls PyProof.Rows
theorem ints_of_wellAll {P : Params} {h : Heap} : ∀ (ns : List Int) (vs : List Value), WellAll P h vs (ns.map WData.int) → IntsAre vs ns := by
 intro ns
 induction ns with
 | nil =>
  intro vs w
  rw [List.map_nil] at w
  cases w
  exact .nil
 | cons n ns ih =>
  intro vs w
  rw [List.map_cons] at w
  cases w with
  | cons a b =>
   cases a
   exact .cons _ _ (ih _ b)
theorem script_of {l : OpenLaw} {n : Nat} (hn : l.most = some n) {P : Params} {h : Heap} {args : List WData} {vals : List Value}
  (hpre : l.row.toRowW.claim.pre args = true) (hwl : WellAll P h vals args) :
  ∃ a vs ns, vals = [Value.ref a] ∧ args = [WData.list (ns.map WData.int)] ∧ h.get? a = some { cls := .type "list", data := .seq vs.toArray } ∧ IntsAre vs ns ∧ ns.length ≤ n := by
 have hsh : WShape.hasAll [] args [.list .int] = true := (pre_splitW hpre).1
 have hc : l.pre.holds [] { args := args } = true := (pre_splitW hpre).2
 obtain ⟨d, r, rfl, h1, h2⟩ := hasAllW_cons hsh
 obtain rfl := hasAllW_nil h2
 obtain ⟨xs, rfl, h3⟩ := hasW_list h1
 obtain ⟨ns, rfl⟩ := items_int h3
 have hlen : ns.length ≤ n := by
  unfold OpenLaw.pre at hc
  have h4 : (WTm.not (.lt (.lit (.int (n : Int))) (.len (.arg 0)))).holds [] { args := [.list (ns.map .int)] } = true := by
   have h4 := (holds_andW hc).1
   rw [hn] at h4
   exact h4
  have h5 := condW_of h4 (w_not (w_lt w_lit (w_len_list (w_arg rfl))))
  rw [List.length_map] at h5
  refine Nat.le_of_not_lt fun q => ?_
  have q' : (n : Int) < ((ns.length : Nat) : Int) := by omega
  first
   | (rw [decide_eq_true q'] at h5; exact absurd h5 (by decide))
   | (simp at h5; omega)
 cases hwl with
 | cons w1 w2 =>
  cases w2
  cases w1 with
  | list ho hall => exact ⟨_, _, ns, rfl, rfl, ho, ints_of_wellAll ns _ hall, hlen⟩
theorem post_true (l : OpenLaw) (args : List WData) : l.row.toRowW.claim.post args (.bool true) args = true :=
 postW_of (r := l.row.toRowW) (X := (true == true))
  (show WShape.has [] (.bool true) .bool = true by first | rfl | decide | simp [WShape.has, WShape.arms, WShape.armsAll])
  (show (WTm.eq .res (.lit (.bool true))).value [] { args := args, res := some (.bool true), after := args } = some (.bool (true == true)) from w_eq_bool (w_res rfl) w_lit) rfl
theorem attach_call {l : OpenLaw} {n : Nat} {q : Program} {loose : List Str} {XP : (Str → Option Value) → Heap → Prop} {YP : World → Heap → Prop} {d : DefRec}
  (hn : l.most = some n) (hdf : d.params.defaults = [])
  (call : ∀ (w : World) (s₀ s₁ : Shared) (mg mb : Str → Option Value) (fa : Addr) (o : Obj) (pm cd doc : Value) (a : Addr) (vs : List Value) (ns : List Int),
   Ground q loose [] XP w s₀ mg mb s₁.heap → YP w s₁.heap →
   s₁.heap.get? fa = some o → o.data = .func (docDef d.name d.params d.body d.scope pm cd doc) → s₁.heap.CodeRec cd d.name → mg d.name = some (.ref fa) →
   s₁.heap.get? a = some { cls := .type "list", data := .seq vs.toArray } → IntsAre vs ns → ns.length ≤ n → s₁.gens = #[] →
   codeAny (model l.prog w) callerA (.call (.ref fa) ⟨[.ref a], []⟩) (fun r s' => r = .ok (.ret (.bool true)) ∧ OldK s₁.heap s'.heap ∧ s'.os = s₁.os ∧ AllBare s'.gens) s₁) :
  WalkO q loose XP YP l.row.toRowW d [] (fun f vs => PySem.call f vs) := by
 intro w s₀ s₁ mg mb G Y fa o pm cd doc dV kV ho hd hcd hD hmg hg args vals as hpre hlay hrd hwl hlo
 obtain rfl : dV = .none := Dflts.none hD hdf
 obtain rfl : kV = .none := Dflts.noKw hD
 obtain ⟨a, vs, ns, rfl, rfl, hobj, hints, hlen⟩ := script_of hn hpre hwl
 refine enter_call (codeAny_mono (call w s₀ s₁ mg mb fa o pm cd doc a vs ns G Y ho (fd_plain hd) hcd hmg hobj hints hlen hg) fun r s' hq => ?_)
 obtain ⟨rfl, h2, h3, h4⟩ := hq
 exact ⟨.inl ⟨.bool true, .bool true, [], rfl, fun _ => rfl, .bool true, post_true l _, fun _ => ⟨List.Pairwise.nil, fun _ hm => (nomatch hm)⟩⟩, h2, h3, h4⟩
section
variable {prog : Program} {w : World} {A : Around} {E : Value → Shared → Prop} {s : Shared} {K : Frag}
end
end Att
namespace L2
open PySem PySem.Spec PyProof.Rows
theorem vals_ints : ∀ {vs : List Value} {ns : List Int}, IntsAre vs ns → Vals (ns.map V.int) vs
 | _, _, .nil => .nil
 | _, _, .cons n t h => .cons ⟨t, rfl⟩ (vals_ints h)
noncomputable def Only (H : Hp) : Prop := ∀ b, H b = none ∨ ∃ o xs, H b = some (.frz o (.lst xs))
theorem law_call {P : Program} {w : World} {K : PySem.W.Frag} {mg mb : Str → Option Value} {CX : CXT} {k : Nat} {fa a : Addr} {fd : FuncData} {x : Str} {sp : Sp} {s₁ : Shared} {vs : List Value} {ns : List Int}
  (KX : K.In s₁.heap) (hns : s₁.heap.Ns mainGlobals mg) (hb : s₁.heap.Ns builtinsNs mb) (hbb : ∀ x : Str, x ≠ "__name__" → mb x = bootBuiltins x) (hlim : s₁.heap.NoLimit) (hg : s₁.gens = #[])
  (ha : s₁.heap.get? a = some { cls := .type "list", data := .seq vs.toArray }) (hi : IntsAre vs ns) (hl : ns.length ≤ sizeLine) (hr : Room k callerA)
  (F : ∀ base : Heap, K.In base → base.Ns mainGlobals mg → FnOk P w K mg base CX k fa fd [x] sp) (hbind : ∀ (s : Shared) (u : Value), BindsTo s fd ⟨[u], []⟩ [(x, u)])
  (hsp : ∀ H : Hp, Only H → SqL K H a (ns.map V.int) → sp [.ref a] H (fun v _ => v = .bl true) fun _ _ _ => False)
  (hCX : ∀ H e s', CX [] H s₁ (fun _ _ _ => False) e s' → False) :
  codeAny (model P w) callerA (.call (.ref fa) ⟨[.ref a], []⟩) (fun r s' => r = .ok (.ret (.bool true)) ∧ OldK s₁.heap s'.heap ∧ s'.os = s₁.os ∧ AllBare s'.gens) s₁ := by
 have rv := vals_ints hi
 have lenV := hi.length
 -- from an abstract heap in which nothing but the script may be tracked
 have core : ∀ H : Hp, Only H → SqL K H a (ns.map V.int) → HOk P w H s₁.heap → (∀ b, H b ≠ none → b = a) → (H a ≠ none → K.lookup a = none) →
   codeAny (model P w) callerA (.call (.ref fa) ⟨[.ref a], []⟩) (fun r s' => r = .ok (.ret (.bool true)) ∧ OldK s₁.heap s'.heap ∧ s'.os = s₁.os ∧ AllBare s'.gens) s₁ := by
  intro H hO hS hok hA hK
  have base_of : ∀ {b : Addr} {o : Obj}, s₁.heap.get? b = some o → H b = none → (hidT s₁.heap H).get? b = some o := fun e n => hidT_get e n
  have noA : ∀ {b : Addr} {o : Obj} {es : Array DictEntry} {ep : Nat}, s₁.heap.get? b = some o → o.data = .dict es ep → H b = none := fun {b o es ep} e d => by
   cases q : H b with
   | none => rfl
   | some u =>
    have e' : b = a := hA b (by rw [q]; simp)
    subst e'
    rw [ha] at e; cases e
    have d' : Data.seq vs.toArray _ = Data.dict es ep := d
    cases d'
  have nsK : ∀ {b : Addr} {m : Str → Option Value}, s₁.heap.Ns b m → (hidT s₁.heap H).Ns b m := fun {b m} ⟨o, es, ep, e, d, r⟩ => ⟨o, es, ep, base_of e (noA e d), d, r⟩
  have hKb : K.In (hidT s₁.heap H) := fun b o e => base_of (KX b o e) (by
   cases q : H b with
   | none => rfl
   | some u =>
    have e' : b = a := hA b (by rw [q]; simp)
    subst e'
    rw [hK (by rw [q]; simp)] at e; cases e)
  have hM : Mod K mg (hidT s₁.heap H) := ⟨hKb, nsK hns, ⟨mb, nsK hb, hbb⟩, let ⟨mc, h1, h2⟩ := hlim; ⟨mc, nsK h1, h2⟩⟩
  have e0 : Env0 P w K mg (hidT s₁.heap H) callerA [] s₁ H := ⟨rfl, hM, fun b o e => of_hidT e, Nat.le_of_eq (hidT_size _ _), trivial, fun b hb => absurd (show b ∈ ([] : List Addr) from hb) (by simp), hok, .of_eq hg⟩
  refine codeAny_mono ((F _ hKb (nsK hns)).run callerA [] s₁ H ⟨[.ref a], []⟩ [.ref a] [.ref a] _ _ hr e0 (hbind s₁ (.ref a)) (.cons rfl .nil) (hsp H hO hS)) fun r s' h => ?_
  cases r with
  | error e => exact (hCX H e s' h).elim
  | ok fl =>
   cases fl with
   | next => exact False.elim h
   | brk => exact False.elim h
   | cont => exact False.elim h
   | ret u =>
    obtain ⟨v, H', os, bare, un, hok', r', q⟩ := h
    have q' : v = .bl true := q
    subst q'
    obtain rfl : u = Value.bool true := r'
    refine ⟨rfl, OldK.of_keep fun b o e => ?_, os, bare⟩
    cases q : H b with
    | none => exact un.keep b o e q (by intro z; exact absurd (show b ∈ ([] : List Addr) from z) (by simp)) (by simp)
    | some u =>
     rcases hO b with z | ⟨ob, xs, z⟩
     ·rw [q] at z; cases z
     ·have z2 := un.frzs b ob _ z
      obtain ⟨e1, _⟩ := hok b _ z
      obtain ⟨e2, _⟩ := hok' b _ z2
      rw [e] at e1; cases e1
      exact e2
 cases hk : K.lookup a with
 | some o =>
  -- the script is one of the module's own objects
  have e := KX a o hk
  rw [ha] at e
  cases e
  refine core (fun _ => none) (fun _ => .inl rfl) (.inr ⟨_, vs.toArray, _, hk, rfl, rfl, rfl, by rw [List.size_toArray, lenV]; exact hl, by simpa using rv⟩) (fun b u z => by have z' : (none : Option HO) = some u := z; cases z') (fun b z => absurd rfl z) fun z => absurd rfl z
 | none =>
  refine core (fun b => if b = a then some (.frz { cls := .type "list", data := .seq vs.toArray } (.lst (ns.map V.int))) else none) (fun b => ?_) (.inl (.inr ⟨{ cls := .type "list", data := .seq vs.toArray }, if_pos rfl⟩)) (fun b u z => ?_) (fun b z => ?_) fun _ => hk
  ·by_cases hb : b = a
   ·exact .inr ⟨_, _, if_pos hb⟩
   ·exact .inl (if_neg hb)
  ·by_cases hb : b = a
   ·have z' := (if_pos hb).symm.trans z
    cases z'
    subst hb
    exact ⟨ha, by rw [List.length_map]; exact hl, vs, _, rv, ha⟩
   ·have z' := (if_neg hb).symm.trans z
    cases z'
  ·by_cases hb : b = a
   ·exact hb
   ·exact absurd (if_neg hb) z
end L2
namespace L2
open PySem PySem.Spec PyProof.Rows
theorem walk_of {l : PySem.W.OpenLaw} {n k : Nat} {q : Program} {loose : List Str} {XP : (Str → Option Value) → Heap → Prop} {YP : World → Heap → Prop} {d : DefRec} {K : Params → PySem.W.Frag} {CX : World → CXT} {sp : World → Sp} {x : Str}
  (hn : l.most = some n) (hn2 : n ≤ sizeLine) (hdf : d.params.defaults = []) (hr : Room k callerA)
  (hY : ∀ (w : World) (h : Heap), YP w h → (K w.params).In h)
  (F : ∀ (w : World) (mg : Str → Option Value) (fa : Addr) (h : Heap), (K w.params).In h → h.Ns mainGlobals mg → mg d.name = some (.ref fa) →
   ∃ fd : FuncData, (∀ (s : Shared) (u : Value), BindsTo s fd ⟨[u], []⟩ [(x, u)]) ∧
    ∀ base : Heap, (K w.params).In base → base.Ns mainGlobals mg → FnOk l.prog w (K w.params) mg base (CX w) k fa fd [x] (sp w))
  (hsp : ∀ (w : World) (H : Hp) (a : Addr) (ns : List Int), ns.length ≤ n → Only H → SqL (K w.params) H a (ns.map V.int) → sp w [.ref a] H (fun v _ => v = .bl true) fun _ _ _ => False)
  (hCX : ∀ (w : World) (H : Hp) (s : Shared) (e : Value) (s' : Shared), CX w [] H s (fun _ _ _ => False) e s' → False) :
  PySem.W.WalkO q loose XP YP l.row.toRowW d [] (fun f vs => PySem.call f vs) := by
 refine Att.attach_call hn hdf fun w s₀ s₁ mg mb fa o pm cd doc a vs ns G Y ho hd hcd hmg hobj hints hlen hg => ?_
 have KX := hY w _ Y
 obtain ⟨fd, hb, hF⟩ := F w mg fa _ KX G.T.g hmg
 exact law_call KX G.T.g G.T.b G.T.builtins G.T.nolimit hg hobj hints (Nat.le_trans hlen hn2) hr hF hb (fun H hO hS => hsp w H a ns hlen hO hS) fun H e s' => hCX w H s₁ e s'
theorem walk_ofK {l : PySem.W.OpenLaw} {n k : Nat} {q : Program} {loose : List Str} {XP : (Str → Option Value) → Heap → Prop} {YP : World → Heap → Prop} {d : DefRec} {K : Params → PySem.W.Frag} {CX : CXT} {sp : PySem.W.Frag → Sp} {x : Str}
  (hn : l.most = some n) (hn2 : n ≤ sizeLine) (hdf : d.params.defaults = []) (hr : Room k callerA)
  (hY : ∀ (w : World) (h : Heap), YP w h → (K w.params).In h)
  (F : ∀ (w : World) (mg : Str → Option Value) (fa : Addr) (h : Heap), (K w.params).In h → h.Ns mainGlobals mg → mg d.name = some (.ref fa) →
   ∃ fd : FuncData, (∀ (s : Shared) (u : Value), BindsTo s fd ⟨[u], []⟩ [(x, u)]) ∧
    ∀ base : Heap, (K w.params).In base → base.Ns mainGlobals mg → FnOk l.prog w (K w.params) mg base CX k fa fd [x] (sp (K w.params)))
  (hsp : ∀ (K : PySem.W.Frag) (H : Hp) (a : Addr) (ns : List Int), ns.length ≤ n → Only H → SqL K H a (ns.map V.int) → sp K [.ref a] H (fun v _ => v = .bl true) fun _ _ _ => False)
  (hCX : ∀ (H : Hp) (s : Shared) (e : Value) (s' : Shared), CX [] H s (fun _ _ _ => False) e s' → False) :
  PySem.W.WalkO q loose XP YP l.row.toRowW d [] (fun f vs => PySem.call f vs) :=
 walk_of (K := K) (CX := fun _ => CX) (sp := fun w => sp (K w.params)) hn hn2 hdf hr hY F (fun w H a ns h1 h2 h3 => hsp (K w.params) H a ns h1 h2 h3) fun _ H s e s' => hCX H s e s'
end L2
/- THE LAST THEOREM (shape; LID, My.* are yours):
   My.Adr: a structure of the addresses that your layer names (classes, functions); My.Txt K t: a structure (Prop) of the equations over K;
   My.txt_mk : {K} {implicit addresses ..} (e1 : nsIn K mainGlobals "law" = some (some (.ref f))) (e2 : K.lookup f = some ⟨oc, od, .func (fnOf "law" "law" params body scope dV kV doc pm an cdv ct), sl⟩) (e3 : codeIn K cdv "law" = true) .. : ∃ t, My.Txt K t
set_option maxRecDepth 100000 in
set_option maxHeartbeats 0 in
theorem PySem.Challenge.cw_LID_holds : PySem.Challenge.rw_LID.Holds := by
 w_on; o_law; k_head; (case hw => w_witness2)
 k_fill
 refine L2.walk_of (l := PySem.Challenge.rw_LID) (n := 63) (k := 40) (x := "script") (CX := fun w => ..) (sp := fun _ => My.sp_law) rfl (by decide) rfl ⟨rfl, by decide, by decide⟩ (fun w h Y => PySem.W.kIn_of Y) ?F ?S ?C
 case F =>
  intro w mg fa h KX G hmg
  have T : ∃ t, My.Txt (L2.KOf KX) t := by
   dsimp only [L2.KOf]                          -- K must stand as «<heap const> w.params» for k_is
   refine' My.txt_mk ?e1 ?e2 ?e3 ..
   (case e1 => PySem.W.k_is)                    -- in the order: a name -> its address -> its object -> its parts
   (case e2 => PySem.W.k_is)
   ..
  obtain ⟨t, T⟩ := T
  have e0 := hmg.symm.trans (PySem.W.mg_of KX G T.law)
  cases e0                                       -- fa is the law's own address
  exact ⟨_, fun s u => .of_eq rfl, fun base kb nb => My.law_fn T kb nb⟩     -- if «.of_eq rfl» comes too early: refine' ⟨_, ?b, fun base kb nb => My.law_fn T kb nb⟩; exact fun s u => .of_eq rfl
 case S => exact fun w H a ns hl hO hS => ..
 case C => exact ..
(the tactic k_is has no namespace: write k_is) -/
namespace L2
open PySem PySem.Spec PyProof.Rows
noncomputable def inClass (s : Stmt) (j : Nat) : Stmt := match s with
 | .ClassDef _ _ _ body _ _ _ _ _ _ _ => body.getD j (.Pass ⟨0, 0, 0, 0⟩)
 | _ => .Pass ⟨0, 0, 0, 0⟩
noncomputable def defArgs (s : Stmt) : Arguments := match s with
 | .FunctionDef _ a _ _ _ _ _ _ _ _ => a
 | _ => { posonlyargs := [], args := [], vararg := none, kwonlyargs := [], kw_defaults := [], kwarg := none, defaults := [] }
noncomputable def defBody (s : Stmt) : List Stmt := match s with
 | .FunctionDef _ _ b _ _ _ _ _ _ _ => b
 | _ => []
noncomputable def defScope (s : Stmt) : Scope := match s with
 | .FunctionDef _ _ _ _ _ _ sc _ _ _ => sc
 | _ => { kind := .function, names := [], isGenerator := false, isCoroutine := false }
noncomputable abbrev CX0 : CXT := fun _ _ _ _ _ _ => False
noncomputable abbrev E0 : XK := fun _ _ _ => False
theorem pass0 {X : Cx} : Passes CX0 X E0 := fun _ _ _ _ _ _ _ h => h.elim
structure Fun (K : PySem.W.Frag) (x qual : Str) (st : Stmt) (f : Addr) (fd : FuncData) : Prop where
 ex : ∃ (oc : Value) (od : Option Addr) (kV doc pm : Value) (an : Option Addr) (cdv ct : Value) (osl : Array (Option Value)),
  fd = PySem.W.fnOf x qual (defArgs st) (defBody st) (defScope st) .none kV doc pm an cdv ct ∧ K.lookup f = some ⟨oc, od, .func fd, osl⟩ ∧ PySem.W.codeIn K cdv qual = true
 kp : PySem.W.keepIn K (.ref f) = true
section
variable {P : Program} {w : World} {K : PySem.W.Frag} {mg : Str → Option Value} {base : Heap}
theorem Fun.binds {x qual : Str} {st : Stmt} {f : Addr} {fd : FuncData} {ps : List Str} (F : Fun K x qual st f fd)
  (h : ∀ (kV doc pm : Value) (an : Option Addr) (cdv ct : Value) (us : List Value), us.length = ps.length → bindArgs (PySem.W.fnOf x qual (defArgs st) (defBody st) (defScope st) .none kV doc pm an cdv ct) ⟨us, []⟩ = pure (ps.zip us)) : Binds K fd ps [] := by
 obtain ⟨oc, od, kV, doc, pm, an, cdv, ct, osl, rfl, lk, hcd⟩ := F.ex
 exact .all (h kV doc pm an cdv ct)
theorem fun_mk {x qual : Str} {st : Stmt} {f : Addr} {oc : Value} {od an : Option Addr} {osl : Array (Option Value)} {kV doc pm cdv ct : Value} (l : K.lookup f = some ⟨oc, od, .func (PySem.W.fnOf x qual (defArgs st) (defBody st) (defScope st) .none kV doc pm an cdv ct), osl⟩)
  (c : PySem.W.codeIn K cdv qual = true) (k : PySem.W.keepIn K (.ref f) = true) : Fun K x qual st f (PySem.W.fnOf x qual (defArgs st) (defBody st) (defScope st) .none kV doc pm an cdv ct) := ⟨⟨oc, od, kV, doc, pm, an, cdv, ct, osl, rfl, l, c⟩, k⟩
end
section
variable {X : Cx}
theorem pv (i : Nat) {x : Str} {pos : Pos} (hN : X.N[i]? = some x := by rfl) (hv : Vis X.env.scope x := by first | exact Or.inl rfl | exact Or.inr (Or.inl rfl) | exact Or.inr (Or.inr rfl)) (hd : (x == ("__debug__" : Str)) = false := by decide)
  (hcd : (x == ("__classdict__" : Str)) = false := by decide) : PE X (.Name x pos) (tVar i) := pe_var hN hv hd hcd
end
noncomputable def Same (H H' : Hp) : Prop := ∀ b o, H b = some o → H' b = some o
theorem Same.refl (H : Hp) : Same H H := fun _ _ h => h
theorem Same.free {H H' : Hp} (e : Same H H') {l : Addr} (h : H' l = Option.none) : H l = Option.none := by
 cases q : H l with
 | none => rfl
 | some o =>
  rw [e l o q] at h
  cases h
theorem Same.seq {K : PySem.W.Frag} {H H' : Hp} {a : Addr} {xs : List V} (e : Same H H') (h : SqL K H a xs) : SqL K H' a xs := by
 rcases h with (h | ⟨o, h⟩) | h
 ·exact .inl (.inl (e _ _ h))
 ·exact .inl (.inr ⟨o, e _ _ h⟩)
 ·exact .inr h
end L2
set_option maxRecDepth 100000
namespace L2
open PySem PySem.Spec PyProof.Rows
section
variable {κ : Type} [DecidableEq κ]
end
section
variable {P : Program} {w : World} {H : Hp} {h : Heap} {a : Addr}
end
section
variable {X : Cx} {pins : List (Addr × Obj)} {σ : St} {H : Hp} {s : Shared} {a : Addr} {y v : V} {u r : Value} {o : Option V} {A : Around} {E : Value → Shared → Prop}
end
section
variable {X : Cx} {pins : List (Addr × Obj)} {σ : St} {H : Hp} {s : Shared} {a : Addr} {kvs : List (Key × V)} {k : Key} {u : Value} {A : Around} {E : Value → Shared → Prop}
end
section
variable {X : Cx} {o i e value : Expr} {pos pos' tpos : Pos} {td ty tv : TE}
end
section
variable {X : Cx} {pos : Pos}
end
section
variable {X : Cx} {pins : List (Addr × Obj)} {σ : St} {H : Hp} {s : Shared} {a : Addr} {y d : V} {u r : Value} {o : Option V} {A : Around} {E : Value → Shared → Prop}
end
section
variable {X : Cx} {o e f : Expr} {apos cpos : Pos} {td ty tx : TE}
end
section
variable {X : Cx} {pins : List (Addr × Obj)} {σ : St} {H : Hp} {s : Shared} {a : Addr} {kvs : List (Key × V)} {A : Around} {E : Value → Shared → Prop}
end
section
variable {X : Cx} {pins : List (Addr × Obj)} {σ : St} {H : Hp} {s : Shared} {a : Addr} {y : V} {u : Value} {A : Around} {E : Value → Shared → Prop}
end
end L2
namespace L2
open PySem PySem.Spec PyProof.Rows
section
variable {X : Cx}
end
section
variable {κ : Type} [DecidableEq κ]
end
end L2
set_option maxRecDepth 100000
namespace L2
open PySem PySem.Spec PyProof.Rows
noncomputable def FnAt (P : Program) (w : World) (K : PySem.W.Frag) (mg : Str → Option Value) (base : Heap) (CX : CXT) (x : Str) (k : Nat) (ps : List Str) (sp : Sp) : Prop :=
 ∃ f fd, FnOk P w K mg base CX k f fd ps sp ∧ mg x = some (.ref f) ∧ PySem.W.keepIn K (.ref f) = true ∧ Binds K fd ps [] ∧ ∃ oc od osl, K.lookup f = some ⟨oc, od, .func fd, osl⟩
noncomputable def DefAt (K : PySem.W.Frag) (mg : Str → Option Value) (x : Str) (st : Stmt) : Prop := ∃ f fd, Fun K x x st f fd ∧ mg x = some (.ref f)
class Quiet (CX : CXT) : Prop where
 pass : ∀ (X : Cx), Passes CX X E0
noncomputable instance : Quiet CX0 := ⟨fun _ => pass0⟩
theorem defat_mk {K : PySem.W.Frag} {h : Heap} {mg : Str → Option Value} {x : Str} {st : Stmt} {f : Addr} {oc : Value} {od an : Option Addr} {osl : Array (Option Value)} {kV doc pm cdv ct : Value} (X : K.In h) (G : h.Ns mainGlobals mg)
  (a : PySem.W.nsIn K mainGlobals x = some (some (.ref f)))
  (l : K.lookup f = some ⟨oc, od, .func (PySem.W.fnOf x x (defArgs st) (defBody st) (defScope st) .none kV doc pm an cdv ct), osl⟩) (c : PySem.W.codeIn K cdv x = true) (k : PySem.W.keepIn K (.ref f) = true) : DefAt K mg x st :=
 ⟨f, _, fun_mk l c k, PySem.W.mg_of X G a⟩
section
variable {P : Program} {w : World} {K : PySem.W.Frag} {mg : Str → Option Value} {base : Heap} {CX : CXT}
theorem DefAt.fn {x : Str} {st : Stmt} {N ps : List Str} {k : Nat} {sp : Sp} (F : DefAt K mg x st) (S : FnScope N ps (defScope st))
  (hb : ∀ (kV doc pm : Value) (an : Option Addr) (cdv ct : Value) (us : List Value), us.length = ps.length → bindArgs (PySem.W.fnOf x x (defArgs st) (defBody st) (defScope st) .none kV doc pm an cdv ct) ⟨us, []⟩ = pure (ps.zip us))
  (len : ∀ vs H Q E, sp vs H Q E → vs.length = ps.length)
  (hbody : ∀ (f : Addr) (cdv : Value) (A : Around) (outer : List Env) (s : Shared) (H : Hp) (vs : List V) (Q : VK) (E : XK), Room k (A.deeper (envOfC x (defScope st) s.heap.objs.size f cdv)) → sp vs H Q E →
   ∃ t, PSs (cxOf CX P w K mg base N x (defScope st) f cdv A outer s H E).nox (defBody st) t ∧ t { nx := fun _ H' => Q .non H', rt := Q } (start N vs) H) : FnAt P w K mg base CX x (k + 1) ps sp := by
 obtain ⟨f, fd, F, hm⟩ := F
 have bd := F.binds hb
 have kp := F.kp
 obtain ⟨oc, od, kV, doc, pm, an, cdv, ct, osl, rfl, lk, hcd⟩ := F.ex
 refine ⟨f, _, fn_of lk hcd S len fun A outer s H vs Q E hr hsp => ?_, hm, kp, bd, oc, od, osl, lk⟩
 obtain ⟨t, h, q⟩ := hbody f cdv A outer s H vs Q E hr hsp
 exact ⟨t, h.nox, q⟩
end
section
variable {X : Cx} {CX : CXT} {k n : Nat} {ps : List Str} {sp : Sp} {x : Str} {p pos : Pos} {e : Expr} {es : List Expr} {t : TA}
theorem pe_fn [Quiet CX] (G : FnAt X.prog X.w X.K X.mg X.base CX x k ps sp) (hr : Room n X.A) (hk : k ≤ n) (hg : Gl X x) (ha : PA X (e :: es) t)
  (hdb : (x == ("__debug__" : Str)) = false := by decide) (he : starEach (e :: es) X.env = (false, eval e X.env) :: starEach es X.env := by rfl) (hpl : (backTo pos (starEach es X.env)).any (·.1) = false := by rfl) :
  PE X (.Call (.Name x p) (e :: es) [] pos) (tCall sp [] E0 t) := by
 obtain ⟨f, fd, F, hm, kp, b, _⟩ := G
 exact pe_call F (hr.mono hk) hg hm kp b .nil (Quiet.pass X) ha hdb he hpl
noncomputable def CstAt (mg : Str → Option Value) (x : Str) (v : V) : Prop := ∃ u, mg x = some u ∧ RelV v u
theorem pe_cst {v : V} (hg : Gl X x) (h : CstAt X.mg x v) (hd : (x == ("__debug__" : Str)) = false := by decide) : PE X (.Name x pos) (tC v) := by
 obtain ⟨u, hm, r⟩ := h
 exact pe_glob hg hm r hd
end
noncomputable def ItrS (lo c : Int) (n : Nat) : It := ⟨fun i _ => i < n, fun i H x H' => H' = H ∧ x = .int (lo + i * c), fun i _ => n ≤ i⟩
noncomputable def rcount (lo hi c : Int) : Nat := (Builtin.Range.rangeSize lo hi c).toNat
section
variable {X : Cx} {tg : Expr}
end
end L2
set_option maxRecDepth 100000
namespace L2
open PySem PySem.Spec PyProof.Rows
section
variable {g : Int → Int → V} {C : Int → Int → Prop} {i j : Int} {H : Hp} {Q : VK}
theorem rI0_int : rI0 g (.int i) (.int j) H Q = Q (g i j) H := by
 apply propext
 constructor
 ·rintro ⟨a, b, e1, e2, q⟩
  cases e1; cases e2; exact q
 ·intro q; exact ⟨i, j, rfl, rfl, q⟩
theorem rI_int : rI C g (.int i) (.int j) H Q = (C i j ∧ Q (g i j) H) := by
 apply propext
 constructor
 ·rintro ⟨a, b, e1, e2, q⟩
  cases e1; cases e2; exact q
 ·intro q; exact ⟨i, j, rfl, rfl, q⟩
theorem rU_int {f : Int → V} : rU f (.int i) H Q = Q (f i) H := by
 apply propext
 constructor
 ·rintro ⟨a, e1, q⟩
  cases e1; exact q
 ·intro q; exact ⟨i, rfl, q⟩
theorem ex_bl {b : Bool} {P : Bool → Prop} : (∃ k, V.bl b = .bl k ∧ P k) = P b := by
 apply propext
 constructor
 ·rintro ⟨k, e, q⟩
  cases e; exact q
 ·intro q; exact ⟨b, rfl, q⟩
theorem ex_sv {v : V} {P : V → Prop} : (∃ u, some (some v) = some (some u) ∧ P u) = P v := by
 apply propext
 constructor
 ·rintro ⟨k, e, q⟩
  cases e; exact q
 ·intro q; exact ⟨v, rfl, q⟩
theorem rEq_int : rEq (.int i) (.int j) H Q = Q (.bl (decide (i = j))) H := by
 have e : decide (V.int i = V.int j) = decide (i = j) := by
  by_cases h : i = j
  ·subst h; simp
  ·rw [decide_eq_false h, decide_eq_false (fun q => h (V.int.inj q))]
 unfold rEq
 rw [e]
 apply propext
 exact ⟨fun h => h.2, fun h => ⟨rfl, h⟩⟩
theorem rNe_int : rNe (.int i) (.int j) H Q = Q (.bl (!decide (i = j))) H := by
 have e : decide (V.int i = V.int j) = decide (i = j) := by
  by_cases h : i = j
  ·subst h; simp
  ·rw [decide_eq_false h, decide_eq_false (fun q => h (V.int.inj q))]
 unfold rNe
 rw [e]
 apply propext
 exact ⟨fun h => h.2, fun h => ⟨rfl, h⟩⟩
theorem rEq_str {a b : Str} : rEq (.str a) (.str b) H Q = Q (.bl (decide (a = b))) H := by
 have e : decide (V.str a = V.str b) = decide (a = b) := by
  by_cases h : a = b
  ·subst h; simp
  ·rw [decide_eq_false h, decide_eq_false (fun q => h (V.str.inj q))]
 unfold rEq
 rw [e]
 apply propext
 exact ⟨fun h => h.2, fun h => ⟨rfl, h⟩⟩
theorem rNe_str {a b : Str} : rNe (.str a) (.str b) H Q = Q (.bl (!decide (a = b))) H := by
 have e : decide (V.str a = V.str b) = decide (a = b) := by
  by_cases h : a = b
  ·subst h; simp
  ·rw [decide_eq_false h, decide_eq_false (fun q => h (V.str.inj q))]
 unfold rNe
 rw [e]
 apply propext
 exact ⟨fun h => h.2, fun h => ⟨rfl, h⟩⟩
theorem rEq_bl {a b : Bool} : rEq (.bl a) (.bl b) H Q = Q (.bl (decide (a = b))) H := by
 have e : decide (V.bl a = V.bl b) = decide (a = b) := by
  by_cases h : a = b
  ·subst h; simp
  ·rw [decide_eq_false h, decide_eq_false (fun q => h (V.bl.inj q))]
 unfold rEq
 rw [e]
 apply propext
 exact ⟨fun h => h.2, fun h => ⟨rfl, h⟩⟩
theorem rNe_bl {a b : Bool} : rNe (.bl a) (.bl b) H Q = Q (.bl (!decide (a = b))) H := by
 have e : decide (V.bl a = V.bl b) = decide (a = b) := by
  by_cases h : a = b
  ·subst h; simp
  ·rw [decide_eq_false h, decide_eq_false (fun q => h (V.bl.inj q))]
 unfold rNe
 rw [e]
 apply propext
 exact ⟨fun h => h.2, fun h => ⟨rfl, h⟩⟩
end
theorem OpR.imp {X : Cx} {f : Value → Value → Sem Value} {r r' : R2} (h : OpR X f r) (i : ∀ x y H Q, r' x y H Q → r x y H Q) : OpR X f r' :=
 fun pins s σ H x y v u Q I rx ry q => h pins s σ H x y v u Q I rx ry (i _ _ _ _ q)
theorem CallR.imp {X : Cx} {f : Value} {r r' : List V → Hp → VK → Prop} (h : CallR X f r) (i : ∀ xs H Q, r' xs H Q → r xs H Q) : CallR X f r' :=
 fun pins s σ H xs us Q I rs q => h pins s σ H xs us Q I rs (i _ _ _ q)
noncomputable def rAddA (K : PySem.W.Frag) : R2 := fun x y H Q => match x, y with
 | .int i, .int j => Q (.int (i + j)) H
 | .str a, .str b => a.length + b.length ≤ sizeLine ∧ Q (.str (a ++ b)) H
 | .ref l, .ref b => rCat (.ref l) (.ref b) H Q ∨ rCatT K (.ref l) (.ref b) H Q
 | _, _ => False
section
variable {X : Cx}
theorem op_addA : OpR X (binaryOp .Add) (rAddA X.K) := by
 refine OpR.imp (op_add.or (op_add_str.or (op_cat.or op_catT))) fun x y H Q h => ?_
 unfold rAddA at h
 split at h
 ·exact .inl ⟨_, _, rfl, rfl, h⟩
 ·exact .inr (.inl ⟨_, _, rfl, rfl, h⟩)
 ·exact .inr (.inr h)
 ·exact h.elim
noncomputable def CShl (i j : Int) : Prop := (0 ≤ j ∧ j ≤ 1000000) ∧ -(2 ^ 512) < i ∧ i < 2 ^ 512
theorem CShl.bits {i j : Int} (h : CShl i j) : (Builtin.Int.intBits i : Int) + j ≤ 2 ^ 27 := by
 have hb : Builtin.Int.intBits i ≤ 512 := by
  unfold Builtin.Int.intBits
  split
  ·omega
  ·rename_i hz
   have hz' : i ≠ 0 := fun q => hz (by rw [q]; rfl)
   have : i.natAbs.log2 < 512 := (Nat.log2_lt (by omega)).mpr (by have := h.2; omega)
   omega
 have := h.1.2
 omega
theorem op_shlA : OpR X (binaryOp .LShift) (rI CShl fun i j => .int (i * 2 ^ j.toNat)) := opI fun _ _ _ _ _ _ _ hc q => lshift_int hc.1.1 hc.bits q
end
noncomputable def CPowA (i j : Int) : Prop := (0 ≤ j ∧ j ≤ 1000000) ∧ -(2 ^ 64) < i ∧ i < 2 ^ 64
noncomputable def rLenA (K : PySem.W.Frag) : List V → Hp → VK → Prop := fun xs H Q => match xs with
 | [.str z] => z.length ≤ sizeLine ∧ Q (.int z.length) H
 | [.ref p] => ∃ ys, (SqL K H p ys ∨ SqT K H p ys) ∧ Q (.int ys.length) H
 | _ => False
section
variable {X : Cx}
theorem call_lenA : CallR X (.builtin "len") (rLenA X.K) := by
 refine CallR.imp (call_len_seq.or call_len_str) fun xs H Q h => ?_
 unfold rLenA at h
 split at h
 ·exact .inr ⟨_, rfl, h.1, h.2⟩
 ·obtain ⟨ys, h1, h2⟩ := h
  exact .inl ⟨_, ys, rfl, h1, h2⟩
 ·exact h.elim
noncomputable def rMinA : List V → Hp → VK → Prop := fun xs H Q => match xs with
 | [.int i, .int j] => Q (.int (if j < i then j else i)) H
 | _ => False
noncomputable def rMaxA : List V → Hp → VK → Prop := fun xs H Q => match xs with
 | [.int i, .int j] => Q (.int (if i < j then j else i)) H
 | _ => False
theorem call_maxA (hc : X.calm = true) : CallR X (.builtin "max") rMaxA := by
 refine CallR.imp (call_max2 hc) fun xs H Q h => ?_
 unfold rMaxA at h
 split at h
 ·exact ⟨_, _, rfl, h⟩
 ·exact h.elim
noncomputable def isiF : V → String → Option Bool
 | .int _, "int" => some true
 | .int _, "bool" => some false
 | .int _, "str" => some false
 | .bl _, "int" => some true
 | .bl _, "bool" => some true
 | .str _, "str" => some true
 | .str _, "int" => some false
 | _, _ => none
noncomputable def rIsi (K : PySem.W.Frag) : List V → Hp → VK → Prop := fun xs H Q => match xs with
 | [x, .ty T] => (match isiF x T with
  | some b => Q (.bl b) H
  | none => ∃ t b, TyOf K H x t ∧ PySem.W.kitOne K t (.type T) = some b ∧ Q (.bl b) H)
 | _ => False
theorem kit_ii (K : PySem.W.Frag) : PySem.W.kitOne K (.type "int") (.type "int") = some true := by first | rfl | kernel_rfl
theorem kit_ib (K : PySem.W.Frag) : PySem.W.kitOne K (.type "int") (.type "bool") = some false := by first | rfl | kernel_rfl
theorem kit_is (K : PySem.W.Frag) : PySem.W.kitOne K (.type "int") (.type "str") = some false := by first | rfl | kernel_rfl
theorem kit_bi (K : PySem.W.Frag) : PySem.W.kitOne K (.type "bool") (.type "int") = some true := by first | rfl | kernel_rfl
theorem kit_bb (K : PySem.W.Frag) : PySem.W.kitOne K (.type "bool") (.type "bool") = some true := by first | rfl | kernel_rfl
theorem kit_ss (K : PySem.W.Frag) : PySem.W.kitOne K (.type "str") (.type "str") = some true := by first | rfl | kernel_rfl
theorem kit_si (K : PySem.W.Frag) : PySem.W.kitOne K (.type "str") (.type "int") = some false := by first | rfl | kernel_rfl
theorem kit_ll (K : PySem.W.Frag) : PySem.W.kitOne K (.type "list") (.type "list") = some true := by first | rfl | kernel_rfl
theorem kit_tt (K : PySem.W.Frag) : PySem.W.kitOne K (.type "tuple") (.type "tuple") = some true := by first | rfl | kernel_rfl
theorem call_isi : CallR X (.builtin "isinstance") (rIsi X.K) := by
 intro pins s σ H xs us Q I rs q
 unfold rIsi at q
 split at q
 ·rename_i x T
  obtain ⟨u, c, rfl, ru, rc⟩ := vals2 rs
  obtain rfl : c = Value.type T := rc
  have key : ∀ {t b}, TyOf X.K H x t → PySem.W.kitOne X.K t (.type T) = some b → Q (.bl b) H → wpAny (model X.prog X.w) X.A (call (.builtin "isinstance") [u, .type T]) (EP X pins σ Q) X.xe s := fun {t b} ty e h =>
   isinst_ok I ru ty e fun tk => ⟨.bl b, H, I.tok tk, rfl, h⟩
  split at q
  ·rename_i b e
   have h := q
   unfold isiF at e
   split at e <;> cases e
   ·exact key (.int _) (kit_ii _) h
   ·exact key (.int _) (kit_ib _) h
   ·exact key (.int _) (kit_is _) h
   ·exact key (.bl _) (kit_bi _) h
   ·exact key (.bl _) (kit_bb _) h
   ·exact key (.str _) (kit_ss _) h
   ·exact key (.str _) (kit_si _) h
  ·obtain ⟨t, b, ty, e, h⟩ := q
   exact key ty e h
 ·exact q.elim
theorem pe_ty {x : Str} {T : String} {pos : Pos} (hg : Gl X x) (hm : X.mg x = none) (hv : bootBuiltins x = some (.type T)) (hn : x ≠ "__name__" := by decide) (hd : (x == ("__debug__" : Str)) = false := by decide) : PE X (.Name x pos) (tC (.ty T)) :=
 pe_bltn hg hm hv rfl hn hd
end
theorem bt_len : bootBuiltins "len" = some (.builtin "len") := by decide +kernel
theorem bt_max : bootBuiltins "max" = some (.builtin "max") := by decide +kernel
theorem bt_sum : bootBuiltins "sum" = some (.builtin "sum") := by decide +kernel
theorem bt_all : bootBuiltins "all" = some (.builtin "all") := by decide +kernel
theorem bt_any : bootBuiltins "any" = some (.builtin "any") := by decide +kernel
theorem bt_isinstance : bootBuiltins "isinstance" = some (.builtin "isinstance") := by decide +kernel
theorem bt_int : bootBuiltins "int" = some (.type "int") := by decide +kernel
theorem bt_bool : bootBuiltins "bool" = some (.type "bool") := by decide +kernel
theorem bt_list : bootBuiltins "list" = some (.type "list") := by decide +kernel
theorem bt_tuple : bootBuiltins "tuple" = some (.type "tuple") := by decide +kernel
section
variable {K : PySem.W.Frag} {H : Hp} {Q : VK}
theorem rAddA_int {i j : Int} : rAddA K (.int i) (.int j) H Q = Q (.int (i + j)) H := rfl
theorem rAddA_str {i j : Str} : rAddA K (.str i) (.str j) H Q = (i.length + j.length ≤ sizeLine ∧ Q (.str (i ++ j)) H) := rfl
theorem rLenA_str {z : Str} : rLenA K [.str z] H Q = (z.length ≤ sizeLine ∧ Q (.int z.length) H) := rfl
theorem rLenA_ref {p : Addr} : rLenA K [.ref p] H Q = (∃ ys, (SqL K H p ys ∨ SqT K H p ys) ∧ Q (.int ys.length) H) := rfl
theorem rIsi_ii {i : Int} : rIsi K [.int i, .ty "int"] H Q = Q (.bl true) H := rfl
theorem rIsi_ib {i : Int} : rIsi K [.int i, .ty "bool"] H Q = Q (.bl false) H := rfl
theorem rIsi_is {i : Int} : rIsi K [.int i, .ty "str"] H Q = Q (.bl false) H := rfl
theorem rIsi_bi {i : Bool} : rIsi K [.bl i, .ty "int"] H Q = Q (.bl true) H := rfl
theorem rIsi_bb {i : Bool} : rIsi K [.bl i, .ty "bool"] H Q = Q (.bl true) H := rfl
theorem rIsi_ss {i : Str} : rIsi K [.str i, .ty "str"] H Q = Q (.bl true) H := rfl
theorem rIsi_si {i : Str} : rIsi K [.str i, .ty "int"] H Q = Q (.bl false) H := rfl
theorem rMinA_int {i j : Int} : rMinA [.int i, .int j] H Q = Q (.int (if j < i then j else i)) H := rfl
theorem rMaxA_int {i j : Int} : rMaxA [.int i, .int j] H Q = Q (.int (if i < j then j else i)) H := rfl
end
theorem cxOf_K {CX : CXT} {P : Program} {w : World} {K : PySem.W.Frag} {mg : Str → Option Value} {base : Heap} {N : List Str} {qual : Str} {scope : Scope} {f : Addr} {cd : Value} {A : Around} {outer : List Env} {s : Shared} {H : Hp} {E : XK} :
  (cxOf CX P w K mg base N qual scope f cd A outer s H E).K = K := rfl
end L2
set_option maxRecDepth 100000
namespace L2
open PySem PySem.Spec PyProof.Rows
section
variable {ta : TA} {tl : TE} {K : PySem.W.Frag} {g : TG} {tb : TS} {D : Ends} {σ : St} {H : Hp}
end
theorem law_fin {P : Program} {w : World} {K : PySem.W.Frag} {mg : Str → Option Value} {CX : CXT} {k : Nat} {fa : Addr} {x nm : Str} {st : Stmt} {sp : Sp} (hmg : mg nm = some (.ref fa)) (D : DefAt K mg nm st)
  (hb : ∀ (kV doc pm : Value) (an : Option Addr) (cdv ct : Value) (us : List Value), us.length = ([x] : List Str).length → bindArgs (PySem.W.fnOf nm nm (defArgs st) (defBody st) (defScope st) .none kV doc pm an cdv ct) ⟨us, []⟩ = pure (([x] : List Str).zip us))
  (ok : ∀ base : Heap, FnAt P w K mg base CX nm k [x] sp) :
  ∃ fd : FuncData, (∀ (s : Shared) (u : Value), BindsTo s fd ⟨[u], []⟩ [(x, u)]) ∧ ∀ base : Heap, K.In base → base.Ns mainGlobals mg → FnOk P w K mg base CX k fa fd [x] sp := by
 obtain ⟨f, fd, F, hm⟩ := D
 rw [hmg] at hm
 cases hm
 obtain ⟨oc, od, kV, doc, pm, an, cdv, ct, osl, e, lk, hcd⟩ := F.ex
 refine ⟨fd, fun s u => ?_, fun base _ _ => ?_⟩
 ·rw [e]
  exact .of_eq (hb kV doc pm an cdv ct [u] rfl)
 ·obtain ⟨f', fd', h, hm', _, _, oc', od', osl', lk'⟩ := ok base
  rw [hmg] at hm'
  cases hm'
  rw [lk] at lk'
  cases lk'
  exact h
noncomputable def spLaw (K : PySem.W.Frag) : Sp := fun vs H Q _ => match vs with
 | [.ref a] => ∃ ns : List Int, SqL K H a (ns.map V.int) ∧ ns.length ≤ 63 ∧ Only H ∧ ∀ H', Q (.bl true) H'
 | _ => False
theorem law_walk {l : PySem.W.OpenLaw} {k : Nat} {q : Program} {loose : List Str} {XP : (Str → Option Value) → Heap → Prop} {YP : World → Heap → Prop} {d : DefRec} {K : Params → PySem.W.Frag} {x : Str} (hn : l.most = some 63) (hdf : d.params.defaults = [])
  (hr : Room k callerA) (hY : ∀ (w : World) (h : Heap), YP w h → (K w.params).In h)
  (F : ∀ (w : World) (mg : Str → Option Value) (fa : Addr) (h : Heap), (K w.params).In h → h.Ns mainGlobals mg → mg d.name = some (.ref fa) →
   ∃ fd : FuncData, (∀ (s : Shared) (u : Value), BindsTo s fd ⟨[u], []⟩ [(x, u)]) ∧ ∀ base : Heap, (K w.params).In base → base.Ns mainGlobals mg → FnOk l.prog w (K w.params) mg base CX0 k fa fd [x] (spLaw (K w.params))) :
  PySem.W.WalkO q loose XP YP l.row.toRowW d [] (fun f vs => PySem.call f vs) :=
 L2.walk_ofK (n := 63) (CX := CX0) (sp := spLaw) hn (by decide) hdf hr hY F (fun K H a ns hl hO hS => ⟨ns, hS, hl, hO, fun _ => rfl⟩) fun _ _ _ _ z => z
end L2
set_option maxRecDepth 100000
namespace L2
open PySem PySem.Spec PyProof.Rows
noncomputable def Cx.comp (X : Cx) (scope : Scope) (cl : List (Str × Addr)) (C : Addr) (N : List Str) (s : Shared) (H : Hp) (ex : List Addr) : Cx :=
 { prog := X.prog, w := X.w, K := X.K, mg := X.mg, base := X.base, A := X.A, N := N, s₀ := s, H₀ := H, env := compEnvC scope cl C X.env, outer := X.stack, stack := X.stack, ex := ex, fn := fun _ => false, calm := X.calm, pn := [], xe := fun _ _ => False }
theorem closure_ok {env : Env} {scope : Scope} (h : ∀ y ∈ scope.names, y.2 = .free → ∃ c, env.cells.lookup y.1 = some c) :
  ∃ cl, closureFor scope env = pure cl ∧ (∀ y c, cl.lookup y = some c → env.cells.lookup y = some c) ∧ ∀ y ∈ scope.names, y.2 = .free → ∃ c, cl.lookup y.1 = some c := by
 have key : ∀ (l : List (Str × NameKind)) (acc : List (Str × Addr)), (∀ y ∈ l, y.2 = .free → ∃ c, env.cells.lookup y.1 = some c) → (∀ y c, acc.lookup y = some c → env.cells.lookup y = some c) →
   ∃ cl, (forIn l acc fun (x : Str × NameKind) (cs : List (Str × Addr)) => if (x.2 == NameKind.free) = true then do let a ← cellOf env x.1; pure (ForInStep.yield ((x.1, a) :: cs)) else pure (ForInStep.yield cs)) = (pure cl : Sem (List (Str × Addr))) ∧
    (∀ y c, cl.lookup y = some c → env.cells.lookup y = some c) ∧ (∀ y c, acc.lookup y = some c → ∃ c, cl.lookup y = some c) ∧ ∀ y ∈ l, y.2 = .free → ∃ c, cl.lookup y.1 = some c := by
  intro l
  induction l with
  | nil => intro acc _ ha; exact ⟨acc, rfl, ha, fun y c e => ⟨c, e⟩, fun y hy => nomatch hy⟩
  | cons x r ih =>
   intro acc hl ha
   obtain ⟨n, k⟩ := x
   by_cases hk : k = .free
   ·subst hk
    obtain ⟨c, hc⟩ := hl (n, .free) List.mem_cons_self rfl
    have ha' : ∀ y d, ((n, c) :: acc).lookup y = some d → env.cells.lookup y = some d := fun y d e => by
     simp only [List.lookup_cons] at e
     cases q : y == n with
     | true => rw [q] at e; cases e; rw [beq_iff_eq.mp q]; exact hc
     | false => rw [q] at e; exact ha y d e
    obtain ⟨cl, e, h1, h2, h3⟩ := ih ((n, c) :: acc) (fun y hy => hl y (List.mem_cons_of_mem _ hy)) ha'
    have top : ∃ d, cl.lookup n = some d := h2 n c (by simp [List.lookup_cons])
    refine ⟨cl, ?_, h1, fun y d q => ?_, fun y hy hf => ?_⟩
    ·rw [List.forIn_cons]
     have ec : cellOf env n = pure c := by unfold cellOf; rw [hc]
     show ((if (NameKind.free == NameKind.free) = true then (do let a ← cellOf env n; pure (ForInStep.yield ((n, a) :: acc))) else _) >>= _) = _
     rw [if_pos (by decide), ec]
     exact e
    ·cases z : y == n with
     | true => rw [beq_iff_eq.mp z]; exact top
     | false => exact h2 y d (by simp only [List.lookup_cons, z]; exact q)
    ·rcases List.mem_cons.mp hy with rfl | hy
     ·exact top
     ·exact h3 y hy hf
   ·have hb : (k == NameKind.free) = false := by simpa using hk
    obtain ⟨cl, e, h1, h2, h3⟩ := ih acc (fun y hy => hl y (List.mem_cons_of_mem _ hy)) ha
    refine ⟨cl, ?_, h1, h2, fun y hy hf => ?_⟩
    ·rw [List.forIn_cons]
     show ((if (k == NameKind.free) = true then _ else pure (ForInStep.yield acc)) >>= _) = _
     rw [hb, if_neg Bool.false_ne_true]
     exact e
    ·rcases List.mem_cons.mp hy with rfl | hy
     ·exact absurd hf hk
     ·exact h3 y hy hf
 obtain ⟨cl, e, h1, _, h3⟩ := key scope.names [] h (fun y c q => by simp at q)
 refine ⟨cl, ?_, h1, h3⟩
 unfold closureFor
 exact (bind_congr (fun _ => rfl)).trans (by rw [e]; rfl)
theorem relabel_look {scope : Scope} {env : Env} {x : Str} {k : NameKind} (h : (relabel scope env).names.lookup x = some k) : scope.names.lookup x = some k ∨ (scope.names.lookup x = some .free ∧ k = .cell) := by
 unfold relabel at h
 have key : ∀ l : List (Str × NameKind), (l.map fun (n, k) => if (k == NameKind.free && env.scope.kind == .function && env.kindOf n == some .cell) then (n, NameKind.cell) else (n, k)).lookup x = some k → l.lookup x = some k ∨ (l.lookup x = some .free ∧ k = .cell) := by
  intro l
  induction l with
  | nil => intro h; simp at h
  | cons y r ih =>
   obtain ⟨n, j⟩ := y
   intro h
   rw [List.map_cons] at h
   simp only [List.lookup_cons]
   cases q : x == n with
   | true =>
    by_cases hc : (j == NameKind.free && env.scope.kind == .function && env.kindOf n == some .cell) = true
    ·simp only [hc, if_true, List.lookup_cons, q] at h
     cases h
     have : j = .free := by
      simp only [Bool.and_eq_true, beq_iff_eq] at hc
      exact hc.1.1
     subst this
     exact .inr ⟨rfl, rfl⟩
    ·have hc' : (j == NameKind.free && env.scope.kind == .function && env.kindOf n == some .cell) = false := by simpa using hc
     simp only [hc', Bool.false_eq_true, if_false, List.lookup_cons, q] at h
     exact .inl h
   | false =>
    by_cases hc : (j == NameKind.free && env.scope.kind == .function && env.kindOf n == some .cell) = true
    ·simp only [hc, if_true, List.lookup_cons, q] at h
     exact ih h
    ·have hc' : (j == NameKind.free && env.scope.kind == .function && env.kindOf n == some .cell) = false := by simpa using hc
     simp only [hc', Bool.false_eq_true, if_false, List.lookup_cons, q] at h
     exact ih h
 exact key _ h
theorem lt_ne {h : Heap} {b n : Addr} {o : Obj} (e : h.get? b = some o) (hn : h.objs.size ≤ n) : b ≠ n := Nat.ne_of_lt (Nat.lt_of_lt_of_le (Heap.lt_size e) hn)
structure CScope (X : Cx) (scope : Scope) (N : List Str) (nv : Nat) (ix : List Nat) : Prop where
 kind : scope.kind = .function
 nocell : ∀ y ∈ scope.names, y.2 ≠ .cell
 names : ∀ y ∈ scope.names, y.2 = .local → scope.names.lookup y.1 = some .local
 fre : ∀ y ∈ scope.names, y.2 = .free → X.env.kindOf y.1 = some .cell ∨ X.env.kindOf y.1 = some .free
 len : N.length = nv + ix.length
 at_ : ∀ j y, N[nv + j]? = some y → ∃ i, ix[j]? = some i ∧ X.N[i]? = some y ∧ (X.env.kindOf y = some .cell ∨ X.env.kindOf y = some .free) ∧ scope.names.lookup y = some .free
noncomputable def compSt (nv : Nat) (ix : List Nat) (σ : St) : St := List.replicate nv none ++ ix.map fun i => (σ[i]?).join
section
variable {X : Cx} {pins : List (Addr × Obj)} {σ : St} {H : Hp} {s : Shared} {scope : Scope} {N : List Str} {nv : Nat} {ix : List Nat}
theorem comp_start {h1 : Heap} {tk : Nat} {cl : List (Str × Addr)} {fp : List Addr} {C D : Addr} {oD : Obj} (S : CScope X scope N nv ix) (I : Inv X pins σ H s) (hcl : ∀ y c, cl.lookup y = some c → X.env.cells.lookup y = some c)
  (hcl2 : ∀ y ∈ scope.names, y.2 = .free → ∃ c, cl.lookup y.1 = some c) (hfp : ∀ b ∈ fp, FpOk X pins H b) (hob : ∀ b ∈ fp, b < s.heap.objs.size)
  (hC : s.heap.objs.size ≤ C) (hD : s.heap.objs.size ≤ D) (hDC : D ≠ C) (old : ∀ b o, s.heap.get? b = some o → h1.get? b = some o) {m : Str → Option Value} (hm : h1.Ns C m) (hoD : h1.get? D = some oD) (hdat : ∀ v, oD.data ≠ .cell v) :
  Inv (X.comp scope cl C N s H fp) [(D, oD)] (compSt nv ix σ) H { s with heap := h1, toks := tk } := by
 refine ⟨⟨I.ok.mod, S.kind, I.ok.glob, I.ok.blt, hC, fun x y c e1 e2 => I.ok.inj x y c (hcl x c e1) (hcl y c e2), fun x hx => ?_, fun _ _ z => absurd z Bool.false_ne_true, I.ok.hd, I.ok.frames, .inl rfl, fun b hb => ⟨fun z => ?_, fun x c e => (hfp b hb).2.2.2.2.1 x c (hcl x c e)⟩, I.bs,
  Nat.le_trans I.ok.bsz I.sz, fun b o e hb => ?_, fun b hb z => ?_, I.stack, I.stkFree⟩, rfl, I.bare, Un.kept old, ⟨m, hm, fun i x v e1 e2 e3 => ?_⟩, fun x c e => ?_, I.hok.fresh hC, fun x c e => I.freeC x c (hcl x c e), fun p hp => ?_, I.hok.kept old, ?_⟩
 ·have hx' : (relabel scope X.env).names.lookup x = some .cell ∨ (relabel scope X.env).names.lookup x = some .free := hx
  have fr : scope.names.lookup x = some .free := by
   rcases hx' with z | z
   ·rcases relabel_look z with q | q
    ·exact absurd rfl (S.nocell _ (PySem.mem_of_lookup q))
    ·exact q.1
   ·rcases relabel_look z with q | q
    ·exact q
    ·cases q.2
  exact hcl2 (x, .free) (PySem.mem_of_lookup fr) rfl
 ·exact Nat.ne_of_lt (Nat.lt_of_lt_of_le (hob b hb) hC) z
 ·rcases (hfp b hb).2.2.2.1 with z | z
  ·exact I.ok.noex b o e z
  ·exact lt_ne e (Nat.le_trans I.ok.bsz z) rfl
 ·rcases List.mem_cons.mp (I.stkSub b z) with q | q
  ·exact (hfp b hb).2.1 q
  ·exact (hfp b hb).2.2.1 q
 ·have e1' : N[i]? = some x := e1
  by_cases hi : i < nv
  ·have e2' : (compSt nv ix σ)[i]? = some (some v) := e2
   unfold compSt at e2'
   rw [List.getElem?_append_left (by simpa using hi), List.getElem?_replicate, if_pos hi] at e2'
   cases e2'
  ·obtain ⟨j, rfl⟩ : ∃ j, i = nv + j := ⟨i - nv, by omega⟩
   obtain ⟨k, hk, hN, hkd, hsc⟩ := S.at_ j x e1'
   have e2' : (compSt nv ix σ)[nv + j]? = some (some v) := e2
   unfold compSt at e2'
   rw [List.getElem?_append_right (by simp), List.length_replicate, Nat.add_sub_cancel_left, List.getElem?_map, hk] at e2'
   have e4 : σ[k]? = some (some v) := by
    have e5 : (σ[k]?).join = some v := by simpa using e2'
    cases q : σ[k]? with
    | none => rw [q] at e5; cases e5
    | some z => rw [q] at e5; have : z = some v := e5; rw [this]
   obtain ⟨m0, _, hl⟩ := I.loc
   have vis : Vis X.env.scope x := by
    rcases hkd with z | z
    ·exact .inr (.inl z)
    ·exact .inr (.inr z)
   obtain ⟨u, r, l⟩ := hl k x v hN e4 vis
   refine ⟨u, r, ?_⟩
   rcases l with ⟨z, _⟩ | ⟨_, c, hc, hcell⟩
   ·rcases hkd with q | q <;> rw [q] at z <;> cases z
   ·obtain ⟨c', hc'⟩ := hcl2 (x, .free) (PySem.mem_of_lookup hsc) rfl
    have := hcl x c' hc'
    rw [hc] at this
    cases this
    refine .inr ⟨?_, c, hc', hcell.keeps old⟩
    rcases e3 with z | z | z
    ·rcases relabel_look z with q | q
     ·rw [hsc] at q; cases q
     ·cases q.2
    ·exact .inl z
    ·exact .inr z
 ·obtain ⟨v, q⟩ := I.cell x c (hcl x c e)
  exact ⟨v, q.keeps old⟩
 ·have hp' : p ∈ [(D, oD)] := hp
  have e : p = (D, oD) := by simpa using hp'
  subst e
  refine ⟨hoD, I.hok.fresh hD, hDC, fun z => ?_, hdat⟩
  rcases List.mem_cons.mp (I.stkSub D z) with q | q
  ·exact Nat.ne_of_gt (Nat.lt_of_lt_of_le I.lt hD) q
  ·exact I.nofs hD q
 ·show (compSt nv ix σ).length = N.length
  unfold compSt
  rw [List.length_append, List.length_replicate, List.length_map, S.len]
theorem comp_end {cl : List (Str × Addr)} {fp : List Addr} {C D : Addr} {its : List Value} {ys : List V} {n : Nat} {σ' : St} {H' : Hp} {s' : Shared} (I : Inv X pins σ H s) (hfp : ∀ b ∈ fp, FpOk X pins H b) (hD : s.heap.objs.size ≤ D)
  (J : Inv (X.comp scope cl C N s H fp) [(D, { cls := .type "list", data := .seq its.toArray n })] σ' H' s') (r : Vals ys its) (hl : ys.length ≤ sizeLine) : Inv X pins σ (upd H' D (.lst ys)) s' := by
 obtain ⟨eD, fD, _⟩ := J.pin (D, { cls := .type "list", data := .seq its.toArray n }) (by simp [Cx.comp])
 have U : Un (frs X.stack) fp H H' s.heap s'.heap := J.base
 have neD : ∀ b o, s.heap.get? b = some o → b ≠ D := fun b o e => lt_ne e hD
 refine I.call' (ch := fp) J.os ⟨U.keep, U.slot, fun b o e n hx => ?_, U.there, fun b xs e => ?_, fun b o xs e => ?_, fun b ps e => ?_⟩ (fun b u e => ?_) J.bare fun b hb => (hfp b hb).2.2.2 |> fun z => ⟨z.1, (hfp b hb).2.1, z.2.1, z.2.2⟩
 ·rw [upd_ne (neD b o e)]; exact U.free b o e n hx
 ·have q := U.tups b xs e
  rw [upd_ne (ne_of_none q fD)]; exact q
 ·have q := U.frzs b o xs e
  rw [upd_ne (ne_of_none q fD)]; exact q
 ·obtain ⟨more, q⟩ := U.tbls b ps e
  exact ⟨more, by rw [upd_ne (ne_of_none q fD)]; exact q⟩
 ·by_cases hb : b = D
  ·subst hb
   rw [upd_same] at e
   cases e
   exact ⟨hl, its, n, r, eD⟩
  ·rw [upd_ne hb] at e
   exact (J.hok b u e).stay (fun c v _ q => q) (fun c q => by rw [upd_ne (ne_of_none q fD)]; exact q) fun c xs q => by rw [upd_ne (ne_of_none q fD)]; exact q
end
section
variable {prog : Program} {w : World} {A : Around} {E : Value → Shared → Prop} {R : Result → Shared → Prop} {s : Shared}
theorem compLoop_own {elt target iter : Expr} {ifs : List Expr} {scope : Scope} {pos : Pos} {it acc : Value} {env : Env} (I : Nat → Shared → Prop)
  (turn : ∀ n s, I n s → wpAny (model prog w) A (pyNext it) (fun r s₁ => match r with
   | none => R (.ok .next) s₁
   | some v => wpAny (model prog w) A (letOwnedTupleGo target it v) (fun _ s₀ => wpAny (model prog w) A (assign target env v) (fun _ s₂ =>
     wpAny (model prog w) A (forIn ifs true fun c r => if r = true then do let ok ← isTrue c env (eval c env); pure (ForInStep.yield ok) else pure (ForInStep.yield r)) (fun ok s₃ =>
      if ok = true then wpAny (model prog w) A (eval elt env) (fun x s₄ =>
       wpAny (model prog w) A (call (.builtin "list.append") [acc, x]) (fun _ s₅ => ∃ m, m < n ∧ I m s₅) (fun _ _ => False) s₄) (fun _ _ => False) s₃
      else ∃ m, m < n ∧ I m s₃) (fun _ _ => False) s₂) (fun _ _ => False) s₀) (fun _ _ => False) s₁) (fun _ _ => False) s)
  (n : Nat) (h : I n s) :
  codeAny (model prog w) A (.compLoop (.ListComp elt [⟨target, iter, ifs, 0⟩] scope pos) 0 it acc env) R s := by
 refine codeAny_loop rfl I (fun n s hI => ?_) n h
 show wpAny _ A ((compTurn (.ListComp elt [⟨target, iter, ifs, 0⟩] scope pos) 0 it acc env).onRaise (fun x => do noteFrame x env; theTreesLotGoes x)) _ _ s
 refine wpAny_noted ?_
 rw [compTurn_list]
 refine wpAny_bind (wpAny_standAt (wpAny_bind (wpAny_mono (turn n s hI) (fun r s₁ h₁ => ?_) fun _ _ h' => h'.elim)))
 cases r with
 | none => exact wpAny_pure h₁
 | some v =>
  refine wpAny_bind (wpAny_mono h₁ (fun _ s₀ h₀ => ?_) fun _ _ h' => h'.elim)
  refine wpAny_bind (wpAny_mono h₀ (fun _ s₂ h₂ => wpAny_bind (wpAny_mono h₂ (fun ok s₃ h₃ => ?_) fun _ _ h' => h'.elim)) fun _ _ h' => h'.elim)
  cases ok with
  | false => exact wpAny_pure ⟨rfl, h₃⟩
  | true =>
   exact wpAny_bind (wpAny_bind (wpAny_mono h₃ (fun x s₄ h₄ => wpAny_bind (wpAny_mono h₄ (fun _ s₅ h₅ => wpAny_pure (wpAny_pure ⟨rfl, h₅⟩)) fun _ _ h' => h'.elim)) fun _ _ h' => h'.elim))
end
noncomputable def tYes : TT := fun _ H Q => Q true H
noncomputable def compR (J : It) (g : TG) (tt : TT) (te : TE) (σ₀ : St) (H1 : Hp) (Q : List V → Hp → Prop) : Prop :=
 ∃ W : Nat → Nat → List V → St → Hp → Prop, (∃ m, W 0 m [] σ₀ H1) ∧ ∀ i m ys σ' H', W i m ys σ' H' →
  (J.stop i H' ∧ Q ys H') ∨ (J.go i H' ∧ ys.length < sizeLine ∧ ∃ N : List V → St → Hp → Prop, (∀ ys' σ'' H'', N ys' σ'' H'' → ∃ m', m' < m ∧ W (i + 1) m' ys' σ'' H'') ∧
   ∀ x H'', J.yld i H' x H'' → g x σ' H'' fun σ2 H2 => tt σ2 H2 fun b H3 => if b = true then te σ2 H3 fun y H4 => N (ys ++ [y]) σ2 H4 else N ys σ2 H3)
noncomputable def tComp (nv : Nat) (ix : List Nat) (wi : TI) (g : TG) (tt : TT) (te : TE) : TE := fun σ H Q => wi σ H fun J H1 => compR J g tt te (compSt nv ix σ) H1 fun ys H' => ys.length ≤ sizeLine ∧ ∀ D, H' D = none → Q (.ref D) (upd H' D (.lst ys))
section
variable {X : Cx} {tg elt iter : Expr} {ifs : List Expr} {scope : Scope} {N : List Str} {nv : Nat} {ix : List Nat} {pos spos : Pos} {wi : TI} {g : TG} {tt : TT} {te : TE}
noncomputable def PTs (X : Cx) (ifs : List Expr) (tt : TT) : Prop :=
 ∀ (pins : List (Addr × Obj)) (s : Shared) (σ : St) (H : Hp) (Q : Bool → Hp → Prop), Inv X pins σ H s → tt σ H Q →
  wpAny (model X.prog X.w) X.A (forIn ifs true fun c r => if r = true then do let ok ← isTrue c X.env (eval c X.env); pure (ForInStep.yield ok) else pure (ForInStep.yield r)) (TP X pins σ Q) X.xe s
theorem pts_nil : PTs X [] tYes := fun _ _ _ H _ I h => wpAny_tests_nil ⟨H, I, h⟩
theorem pts_one {c : Expr} (h : PT X c tt) : PTs X [c] tt := fun pins s σ H Q I hw => wpAny_tests_one (h pins s σ H Q I hw)
theorem comp_core {use : Option (Value → Sem Unit)} {Qv : Value → Shared → Prop} {pins : List (Addr × Obj)} {s : Shared} {σ : St} {H : Hp} {Q : List V → Hp → Prop} (hc : X.calm = true) (S : CScope X scope N nv ix) (hi : PI X tg iter wi)
  (hg : ∀ cl C s H ex, PG (X.comp scope cl C N s H ex) tg g) (ht : ∀ cl C s H ex, PTs (X.comp scope cl C N s H ex) ifs tt) (he : ∀ cl C s H ex, PE (X.comp scope cl C N s H ex) elt te) (I : Inv X pins σ H s)
  (h : wi σ H fun J H1 => compR J g tt te (compSt nv ix σ) H1 fun ys H' => ys.length ≤ sizeLine ∧ Q ys H')
  (fin : ∀ ys D C H' s' (s2 : Shared) (σ2 : St), Q ys H' → H' D = none → D ≠ C → Inv X pins σ (upd H' D (.lst ys)) s' → (∃ m, s'.heap.Ns C m) → (∀ H'', H'' C = none → FpOk X pins H'' C) → H' C = none → compPost (model X.prog X.w) X.A X.xe use Qv (.ref D) C (.ok .next) s')
  (hs : ∀ x, foldedSetIterable iter X.env x = pure x) :
  wpAny (model X.prog X.w) X.A (comprehension (.ListComp elt [⟨tg, iter, ifs, 0⟩] scope pos) scope X.env (firstIterPos [⟨tg, iter, ifs, 0⟩] pos) (newList []) false (eval iter X.env) use) Qv X.xe s := by
 obtain ⟨cl, hclos, hcl, hcl2⟩ := closure_ok (env := X.env) (scope := scope) fun y hy hf => I.ok.has y.1 (S.fre y hy hf)
 refine wpAny_comprehension_free (use := use) rfl hs hclos S.kind S.names (thn (hi pins s σ H _ I h) fun v s1 h1 => thn h1 fun itv s2 h2 => ?_)
 obtain ⟨it, fp, tn, J, H2, e, I2, T, st2, f2, W, ⟨m0, w0⟩, turn⟩ := h2
 subst e
 refine wpAny_newObj_type (wpAny_newFunctionEnv S.nocell (by intro y hy; simp at hy) (fun h₁ hns₁ hsb₁ => ?_) S.kind)
 dsimp only at hns₁ hsb₁ ⊢
 generalize hH2 : s2.heap.push { cls := .type "list", dict := none, data := .seq ([] : List Value).toArray } = G2 at hns₁ hsb₁ ⊢
 have hC : G2.objs.size = s2.heap.objs.size + 1 := by rw [← hH2, Heap.size_push]
 have hDC : s2.heap.objs.size ≠ G2.objs.size := by rw [hC]; exact Nat.ne_of_lt (Nat.lt_succ_self _)
 have old : ∀ b o, s2.heap.get? b = some o → h₁.get? b = some o := fun b o e => hsb₁.extBut b o (lt_ne e (by rw [hC]; exact Nat.le_succ _)) (Heap.get?_push_of_some _ (hH2 ▸ Heap.get?_push_of_some _ e))
 have hacc : h₁.get? s2.heap.objs.size = some { cls := .type "list", data := .seq ([] : List Value).toArray 0 } := hsb₁.extBut _ _ hDC (Heap.get?_push_of_some _ (hH2 ▸ Heap.get?_push_size _ rfl))
 have hob : ∀ b ∈ fp, b < s2.heap.objs.size := fun b hb => by
  obtain ⟨o, e, _⟩ := T.obj _ _ st2 b hb
  exact Heap.lt_size e
 have hCle : s2.heap.objs.size ≤ G2.objs.size := by rw [hC]; exact Nat.le_succ _
 have I4 : ∀ tk, Inv (X.comp scope cl G2.objs.size N s2 H2 fp) [(s2.heap.objs.size, { cls := .type "list", data := .seq ([] : List Value).toArray 0 })] (compSt nv ix σ) H2 { s2 with heap := h₁, toks := tk } := fun tk =>
  comp_start S I2 hcl hcl2 f2 hob hCle (Nat.le_refl _) hDC old hns₁ hacc (fun v z => by cases z)
 have hst₁ : tn 0 h₁ := T.keep _ _ _ st2 fun b _ o e => old b o e
 have stat : ∀ {H' : Hp} {pns : List (Addr × Obj)}, (∀ p ∈ pns, p.1 = s2.heap.objs.size) → (∀ b ∈ fp, H' b = none) → ∀ b ∈ fp, FpOk (X.comp scope cl G2.objs.size N s2 H2 fp) pns H' b := fun {H' pns} hp hn b hb => by
  obtain ⟨f0, f1, f3, f4, f5, f6⟩ := f2 b hb
  have hlt := hob b hb
  refine ⟨hn b hb, fun z => ?_, fun z => ?_, .inl hb, fun x c e => f5 x c (hcl x c e), fun p hp' z => ?_⟩
  ·exact Nat.ne_of_lt (Nat.lt_of_lt_of_le hlt hCle) z
  ·rcases List.mem_cons.mp (I2.stkSub b z) with q | q
   ·exact f1 q
   ·exact f3 q
  ·have hp'' : p ∈ pns := by simpa [Cx.comp] using hp'
   exact Nat.ne_of_gt (by rw [hp p hp'']; exact hlt) z
 have loop : ∀ s₃ : Shared, s₃ = { s2 with heap := h₁, toks := s2.toks + ([] : List (Str × Value)).length } →
   codeAny (model X.prog X.w) X.A (.compLoop (.ListComp elt [⟨tg, iter, ifs, 0⟩] scope pos) 0 (.ref it) (.ref s2.heap.objs.size) (compEnvC scope cl G2.objs.size X.env))
    (compPost (model X.prog X.w) X.A X.xe use Qv (.ref s2.heap.objs.size) G2.objs.size) s₃ := by
  rintro s₃ rfl
  refine compLoop_own (fun n s' => ∃ i ys its σ' H', Inv (X.comp scope cl G2.objs.size N s2 H2 fp) [(s2.heap.objs.size, { cls := .type "list", data := .seq its.toArray its.length })] σ' H' s' ∧ tn i s'.heap ∧ (∀ b ∈ fp, H' b = none) ∧ Vals ys its ∧ W i n ys σ' H') ?_ m0
   ⟨0, [], [], _, H2, I4 _, hst₁, fun b hb => (f2 b hb).1, .nil, w0⟩
  rintro n s' ⟨i, ys, its, σ', H', I', st', fr', rv, w'⟩
  have pin1 : ∀ {o : Obj}, ∀ p ∈ [(s2.heap.objs.size, o)], p.1 = s2.heap.objs.size := fun {o} p hp => by
   exact congrArg Prod.fst (List.mem_singleton.mp hp)
  rcases turn i n ys σ' H' w' with ⟨stop, hl, qn⟩ | ⟨go, hlen, Nx, hN, step⟩
  ·refine thn (T.done (X.comp scope cl G2.objs.size N s2 H2 fp) rfl rfl rfl hc i _ s' σ' H' (fun _ _ => False) I' (stat pin1 fr') st' stop) fun r s4 ⟨hr, I5⟩ => ?_
   subst hr
   obtain ⟨m5, hm5, _⟩ := I5.loc
   have fD := (I5.pin (s2.heap.objs.size, { cls := .type "list", data := .seq its.toArray its.length }) (List.mem_append_right _ (by simp))).2.1
   exact fin ys _ _ H' s4 s2 σ' qn fD hDC (comp_end I2 f2 (Nat.le_refl _) I5 rv hl) ⟨m5, hm5⟩ (fun H'' hn => I2.fpOk hCle hn) I5.free
  ·refine thn (T.item (X.comp scope cl G2.objs.size N s2 H2 fp) rfl rfl rfl hc i _ s' σ' H' (fun _ _ => False) I' (stat pin1 fr') st' go) fun r s4 ⟨u, hr, h4⟩ => ?_
   subst hr
   refine thn h4 fun _ s5 ⟨x, H5, I5, r5, y5, st5, fr5⟩ => ?_
   have I5' := I5.pinned (stat pin1 fr5) (T.obj _ _ st5)
   refine thn (hg _ _ _ _ _ _ s5 σ' H5 x u _ I5' r5 (step x H5 y5)) fun _ s6 ⟨σ6, H6, I6, q6⟩ => ?_
   refine thn (ht _ _ _ _ _ _ s6 σ6 H6 _ I6 q6) fun b s7 ⟨H7, I7, q7⟩ => ?_
   have back : ∀ {σ8 : St} {H8 : Hp} {s8 : Shared}, Inv (X.comp scope cl G2.objs.size N s2 H2 fp) ([(s2.heap.objs.size, { cls := .type "list", data := .seq its.toArray its.length })] ++ pinsAt fp s5.heap) σ8 H8 s8 → tn (i + 1) s8.heap ∧ ∀ b ∈ fp, H8 b = none := fun {σ8 H8 s8} J =>
    ⟨T.keep _ _ _ st5 fun b hb o e => (J.pin (b, o) (List.mem_append_right _ (List.mem_append_right _ (mem_pinsAt hb e)))).1, fun b hb => by
     obtain ⟨o, e, d⟩ := T.obj _ _ st5 b hb
     exact (J.pin (b, o) (List.mem_append_right _ (List.mem_append_right _ (mem_pinsAt hb e)))).2.1⟩
   cases b with
   | false =>
    rw [if_neg Bool.false_ne_true] at q7
    obtain ⟨m', hm, w7⟩ := hN _ _ _ q7
    exact ⟨m', hm, i + 1, ys, its, σ6, H7, I7.unpinned, (back I7).1, (back I7).2, rv, w7⟩
   | true =>
    rw [if_pos rfl] at q7
    refine thn (he _ _ _ _ _ _ s7 σ6 H7 _ I7 q7) fun y s8 ⟨yv, H8, I8, r8, q8⟩ => ?_
    obtain ⟨eD, fD, nD, nfD, dD⟩ := I8.pin (s2.heap.objs.size, { cls := .type "list", data := .seq its.toArray its.length }) (List.mem_append_right _ (by simp))
    refine append_at (hsz := by rw [List.size_toArray, ← rv.length]; exact Nat.le_of_lt hlen) eD fun h₅ hs₅ hD₅ => ?_
    obtain ⟨m', hm, w8⟩ := hN _ _ _ q8
    have fpD : s2.heap.objs.size ∉ fp := fun z => Nat.lt_irrefl _ (hob _ z)
    have I9 : Inv (X.comp scope cl G2.objs.size N s2 H2 fp) [] σ6 H8 s8 := I8.pins_of fun p hp => absurd hp (by simp)
    have fk := I2.fpOk (H' := H8) (Nat.le_refl _) fD
    have I10 : Inv (X.comp scope cl G2.objs.size N s2 H2 fp) [] σ6 H8 { s8 with heap := h₅, toks := s8.toks } :=
     I9.turned (it := s2.heap.objs.size) (fun b o hb e => hs₅.extBut b o hb e) fD nD (.inr (Nat.le_refl _)) (fun x c e => fk.2.2.2.2.1 x c (hcl x c e)) (fun p hp => absurd hp (by simp [Cx.comp]))
    refine ⟨m', hm, i + 1, ys ++ [yv], its ++ [y], σ6, H8, I10.pins_of fun p hp => ?_, ?_, (back I8).2, rv.append (.cons r8 .nil), w8⟩
    ·have e : p = (s2.heap.objs.size, { cls := .type "list", data := .seq (its ++ [y]).toArray (its ++ [y]).length }) := by simpa using hp
     subst e
     refine ⟨?_, fD, nD, nfD, fun v z => by cases z⟩
     show h₅.get? s2.heap.objs.size = _
     rw [hD₅, List.push_toArray, List.length_append, List.length_singleton]
    ·exact T.keep _ _ _ (back I8).1 fun b hb o e => hs₅.extBut b o (fun z => fpD (by have z' : b = s2.heap.objs.size := z; rw [← z']; exact hb)) e
 exact codeAny_compStart_list (loop _ rfl) (T.self _ 0 _ _ _ hst₁ (loop _ rfl))
theorem pe_comp (hc : X.calm = true) (S : CScope X scope N nv ix) (hi : PI X tg iter wi)
  (hg : ∀ cl C s H ex, PG (X.comp scope cl C N s H ex) tg g) (ht : ∀ cl C s H ex, PTs (X.comp scope cl C N s H ex) ifs tt) (he : ∀ cl C s H ex, PE (X.comp scope cl C N s H ex) elt te)
  (hs : ∀ x, foldedSetIterable iter X.env x = pure x := by intro _; rfl) : PE X (.ListComp elt [⟨tg, iter, ifs, 0⟩] scope pos) (tComp nv ix wi g tt te) := by
 intro pins s σ H Q I h
 rw [eval_ListComp]
 refine comp_core (Q := fun ys H' => ∀ D, H' D = none → Q (.ref D) (upd H' D (.lst ys))) (use := none) hc S hi hg ht he I ?_ (fun ys D C H' s' s2 σ2 q fD hDC J hm fk fC => ?_) hs
 ·exact h
 ·obtain ⟨m, hm⟩ := hm
  refine ⟨m, hm, fun h' sb => ⟨.ref D, _, ?_, rfl, q D fD⟩⟩
  have fC' : upd H' D (.lst ys) C = none := by rw [upd_ne (Ne.symm hDC)]; exact fC
  obtain ⟨f0, f1, f2, f3, f4, f5⟩ := fk _ fC'
  exact J.turned (t' := s'.toks) (it := C) (fun b o hb e => sb.extBut b o hb e) f0 f1 f3 f4 f5
theorem ps_setc {i : Nat} {x : Str} {px : Pos} (hc : X.calm = true) (hN : X.N.Nodup) (hi' : X.N[i]? = some x) (hx : X.env.scope.names.lookup x = some .local) (S : CScope X scope N nv ix) (hi : PI X tg iter wi)
  (hg : ∀ cl C s H ex, PG (X.comp scope cl C N s H ex) tg g) (ht : ∀ cl C s H ex, PTs (X.comp scope cl C N s H ex) ifs tt) (he : ∀ cl C s H ex, PE (X.comp scope cl C N s H ex) elt te)
  (hsw : swapsWith (.ListComp elt [⟨tg, iter, ifs, 0⟩] scope pos) (some (.Name x px)) spos.line X.env = pure true := by rfl)
  (hs : ∀ x, foldedSetIterable iter X.env x = pure x := by intro _; rfl) : PS X (.Assign [.Name x px] (.ListComp elt [⟨tg, iter, ifs, 0⟩] scope pos) spos) (tAsg (tComp nv ix wi g tt te) (gName i)) := by
 intro pins s σ H D I h
 rw [exec_Assign_Name_used _ _ _ _ hsw]
 refine wpAny_bind (wpAny_standAt (wpAny_bind ?_))
 show wpAny _ _ (do let _ ← comprehension (.ListComp elt [⟨tg, iter, ifs, 0⟩] scope pos) scope X.env (firstIterPos [⟨tg, iter, ifs, 0⟩] pos) (newList []) false (eval iter X.env) (some (assign (.Name x px) X.env))) _ _ s
 refine wpAny_bind (thn (comp_core (Q := fun ys H' => ∀ l, H' l = none → D.nx (σ.set i (some (.ref l))) (upd H' l (.lst ys))) (use := some (assign (.Name x px) X.env)) (Qv := fun _ s' => SP X pins D .next s') hc S hi hg ht he I h (fun ys l C H' s' s2 σ2 q fD hDC J hm fk fC => ?_) hs)
  fun _ s' hq => wpAny_pure (wpAny_pure hq))
 obtain ⟨m, hm⟩ := hm
 have fC' : upd H' l (.lst ys) C = none := by rw [upd_ne (Ne.symm hDC)]; exact fC
 obtain ⟨f0, f1, f2, f3, f4, f5⟩ := fk _ fC'
 show wpAny _ _ (assign (.Name x px) X.env (.ref l)) _ _ s'
 refine wpAny_assign_Name (store_ok2 J hN hi' (.inl hx) (v := .ref l) (u := .ref l) rfl (fun s'' J' ⟨a, sb, ha⟩ => ?_) (.inr hx))
 have hCa : C ≠ a := by
  rcases ha with z | z
  ·rw [z]; exact f1
  ·exact Ne.symm (f4 x a z)
 refine ⟨m, hm.sameBut sb hCa, fun h' sb' => ⟨_, _, ?_, q l fD⟩⟩
 exact J'.turned (t' := s''.toks) (it := C) (fun b o hb e => sb'.extBut b o hb e) f0 f1 f3 f4 f5
end
end L2
set_option maxRecDepth 100000
namespace L2
open PySem PySem.Spec PyProof.Rows
noncomputable def Its (x : Str) : It := ⟨fun i _ => i < x.cps.size, fun i H v H' => H' = H ∧ ∃ c, x.cps[i]? = some c ∧ v = .str ⟨#[c]⟩, fun i _ => x.cps.size ≤ i⟩
theorem turn_str {P : Program} {w : World} {K : PySem.W.Frag} {tg : Expr} (it : Addr) (x : Str) (t : Tok) (T : String) (hT : T = "str_ascii_iterator" ∨ T = "str_iterator") : Turn P w K tg (Its x) [it] it (fun i h => h.IsStrIter it T x t i) where
 mem := by simp
 obj := fun i h st b hb => by
  have e : b = it := by simpa using hb
  subst e
  obtain ⟨o, e, c, d⟩ := st
  exact ⟨o, e, fun v z => by rw [d] at z; cases z⟩
 keep := fun i h h' st k => by
  obtain ⟨o, e, r⟩ := st
  exact ⟨o, k it (by simp) o e, r⟩
 item := by
  intro X hP hw hK hc i pins s σ H E I hf st hg
  subst hP hw hK
  obtain ⟨f0, f1, f2, f3, f4, f5⟩ := hf it (by simp)
  have hg' : i < x.cps.size := hg
  have W : Walks X.prog X.w X.A it [it] [it] x.cps.size (SignAt x) (fun i h => h.IsStrIter it T x t i) := by
   rcases hT with rfl | rfl
   ·exact Walks.strAscii (I.ok.hd hc) it x t
   ·exact Walks.strWide (I.ok.hd hc) it x t
  refine W.item i s _ _ hg' st fun v h' tk hv st' kk => ?_
  obtain ⟨c, u, hcx, rfl⟩ := hv
  have I1 : Inv X pins σ H { s with heap := h', toks := tk } := I.turned (fun b o hb e => kk b o (by simpa using hb) e) f0 f1 f3 f4 f5
  obtain ⟨o, e, c', d⟩ := id st'
  refine ⟨_, rfl, go_of (s := { s with heap := h', toks := tk }) e c' d (by rcases hT with rfl | rfl <;> decide) ⟨.str ⟨#[c]⟩, H, I1, ⟨u, rfl⟩, ⟨rfl, c, hcx, rfl⟩, st', fun b hb => (hf b hb).1⟩⟩
 done := by
  intro X hP hw hK hc i pins s σ H E I hf st hg
  subst hP hw hK
  obtain ⟨f0, f1, f2, f3, f4, f5⟩ := hf it (by simp)
  have hg' : x.cps.size ≤ i := hg
  have he : x.cps[i]? = none := by simp [hg']
  rcases hT with rfl | rfl
  ·exact wpAny_pyNext_ascii_end (I.ok.hd hc) st he fun h' eb => ⟨rfl, I.turned (t' := s.toks) (fun b o hb e => eb b o hb e) f0 f1 f3 f4 f5⟩
  ·exact wpAny_pyNext_wide_end (I.ok.hd hc) st he fun h' eb => ⟨rfl, I.turned (t' := s.toks) (fun b o hb e => eb b o hb e) f0 f1 f3 f4 f5⟩
 self := fun _ _ _ _ _ st h => by
  rcases hT with rfl | rfl
  ·exact wpAny_pyIter_striter_ascii st h
  ·exact wpAny_pyIter_striter_wide st h
noncomputable def seqR (K : PySem.W.Frag) (x : V) (H1 : Hp) (R : It → Hp → Prop) : Prop := match x with
 | .ref a => (∃ xs, SqL K H1 a xs ∧ R (Itl K a) H1) ∨ (∃ xs, SqT K H1 a xs ∧ R (Itt K a) H1)
 | .str z => R (Its z) H1
 | _ => False
noncomputable def iSeq (K : PySem.W.Frag) (tl : TE) : TI := fun σ H R => tl σ H fun x H1 => seqR K x H1 R
theorem pi_seq {X : Cx} {tg l : Expr} {tl : TE} (hl : PE X l tl) : PI X tg l (iSeq X.K tl) := by
 intro pins s σ H R I h
 refine thn (hl pins s σ H _ I h) fun v s1 ⟨x, H1, I1, r1, q1⟩ => ?_
 cases x with
 | ref a =>
  cases r1
  rcases q1 with ⟨xs, hq, q⟩ | ⟨xs, hq, q⟩
  ·obtain ⟨its, rv, p, hz⟩ := I1.list hq
   refine wpAny_pyIter_list p.isList ?_
   refine ⟨s1.heap.objs.size, [s1.heap.objs.size], _, _, H1, rfl, I1.kept (t' := s1.toks) fun b o e => Heap.get?_push_of_some _ e, turn_list a _, ⟨_, Heap.get?_push_size _ rfl, rfl, rfl⟩, fun b hb => ?_, q⟩
   have e : b = s1.heap.objs.size := by simpa using hb
   subst e
   exact I1.fpOk (Nat.le_refl _) (I1.hok.fresh (Nat.le_refl _))
  ·obtain ⟨its, rv, p, hz⟩ := I1.tuple hq
   refine wpAny_pyIter_tuple (show s1.heap.IsTuple a its.toArray from p) ?_
   refine ⟨s1.heap.objs.size, [s1.heap.objs.size], _, _, H1, rfl, I1.kept (t' := s1.toks) fun b o e => Heap.get?_push_of_some _ e, turn_tuple a _, ⟨_, Heap.get?_push_size _ rfl, rfl, rfl⟩, fun b hb => ?_, q⟩
   have e : b = s1.heap.objs.size := by simpa using hb
   subst e
   exact I1.fpOk (Nat.le_refl _) (I1.hok.fresh (Nat.le_refl _))
 | str z =>
  obtain ⟨t, rfl⟩ := r1
  have fp : ∀ b ∈ [s1.heap.objs.size], FpOk X pins H1 b := fun b hb => by
   have e : b = s1.heap.objs.size := by simpa using hb
   subst e
   exact I1.fpOk (Nat.le_refl _) (I1.hok.fresh (Nat.le_refl _))
  cases ha : z.cps.all (· < 128)
  ·exact wpAny_pyIter_wide ha ⟨s1.heap.objs.size, [s1.heap.objs.size], _, _, H1, rfl, I1.kept (t' := s1.toks) fun b o e => Heap.get?_push_of_some _ e, turn_str _ z t _ (.inr rfl), ⟨_, Heap.get?_push_size _ rfl, rfl, rfl⟩, fp, q1⟩
  ·exact wpAny_pyIter_ascii ha ⟨s1.heap.objs.size, [s1.heap.objs.size], _, _, H1, rfl, I1.kept (t' := s1.toks) fun b o e => Heap.get?_push_of_some _ e, turn_str _ z t _ (.inl rfl), ⟨_, Heap.get?_push_size _ rfl, rfl, rfl⟩, fp, q1⟩
 | _ => exact q1.elim
noncomputable def forR (J : It) (g : TG) (tb : TS) (D : Ends) (σ : St) (H : Hp) : Prop := ∃ W : Nat → Nat → St → Hp → Prop, (∃ m, W 0 m σ H) ∧ ∀ i m σ H, W i m σ H →
 (J.stop i H ∧ D.nx σ H) ∨ (J.go i H ∧ ∃ N : St → Hp → Prop, (∀ σ' H', N σ' H' → ∃ m', m' < m ∧ W (i + 1) m' σ' H') ∧ ∀ x H', J.yld i H x H' → g x σ H' fun σ2 H2 => tb { D with nx := N, ct := N, bk := D.nx } σ2 H2)
section
variable {K : PySem.W.Frag} {tl : TE} {g : TG} {tb : TS} {D : Ends} {σ : St} {H : Hp} {tt : TT} {te : TE} {nv : Nat} {ix : List Nat} {Q : VK} {ta : TA}
theorem tFor_seq : tFor (iSeq K tl) g tb D σ H = tl σ H fun x H1 => seqR K x H1 fun J H2 => forR J g tb D σ H2 := rfl
theorem tComp_seq : tComp nv ix (iSeq K tl) g tt te σ H Q = tl σ H fun x H1 => seqR K x H1 fun J H2 => compR J g tt te (compSt nv ix σ) H2 fun ys H' => ys.length ≤ sizeLine ∧ ∀ l, H' l = none → Q (.ref l) (upd H' l (.lst ys)) := rfl
noncomputable def rngR1 (vs : List V) (H1 : Hp) (R : It → Hp → Prop) : Prop := match vs with
 | [.int j] => (-(2 ^ 62) ≤ j ∧ j < 2 ^ 62) ∧ R (Itr 0 j.toNat) H1
 | _ => False
noncomputable def rngR2 (vs : List V) (H1 : Hp) (R : It → Hp → Prop) : Prop := match vs with
 | [.int i, .int j] => (-(2 ^ 62) ≤ i ∧ i < 2 ^ 62 ∧ -(2 ^ 62) ≤ j ∧ j < 2 ^ 62) ∧ R (Itr i (j - i).toNat) H1
 | _ => False
noncomputable def jRng1 (ta : TA) : TI := fun σ H R => ta σ H fun vs H1 => rngR1 vs H1 R
noncomputable def jRng2 (ta : TA) : TI := fun σ H R => ta σ H fun vs H1 => rngR2 vs H1 R
noncomputable def rngR3 (vs : List V) (H1 : Hp) (R : It → Hp → Prop) : Prop := match vs with
 | [.int i, .int j, .int c] => (-(2 ^ 61) ≤ i ∧ i < 2 ^ 61 ∧ -(2 ^ 61) ≤ j ∧ j < 2 ^ 61 ∧ 0 < c ∧ c < 1000000) ∧ R (ItrS i c (rcount i j c)) H1
 | _ => False
noncomputable def jRng3 (ta : TA) : TI := fun σ H R => ta σ H fun vs H1 => rngR3 vs H1 R
theorem tFor_rng1 : tFor (jRng1 ta) g tb D σ H = ta σ H fun vs H1 => rngR1 vs H1 fun J H2 => forR J g tb D σ H2 := rfl
theorem tFor_rng2 : tFor (jRng2 ta) g tb D σ H = ta σ H fun vs H1 => rngR2 vs H1 fun J H2 => forR J g tb D σ H2 := rfl
theorem tFor_rng3 : tFor (jRng3 ta) g tb D σ H = ta σ H fun vs H1 => rngR3 vs H1 fun J H2 => forR J g tb D σ H2 := rfl
theorem tComp_rng1 : tComp nv ix (jRng1 ta) g tt te σ H Q = ta σ H fun vs H1 => rngR1 vs H1 fun J H2 => compR J g tt te (compSt nv ix σ) H2 fun ys H' => ys.length ≤ sizeLine ∧ ∀ l, H' l = none → Q (.ref l) (upd H' l (.lst ys)) := rfl
theorem tComp_rng2 : tComp nv ix (jRng2 ta) g tt te σ H Q = ta σ H fun vs H1 => rngR2 vs H1 fun J H2 => compR J g tt te (compSt nv ix σ) H2 fun ys H' => ys.length ≤ sizeLine ∧ ∀ l, H' l = none → Q (.ref l) (upd H' l (.lst ys)) := rfl
theorem tComp_rng3 : tComp nv ix (jRng3 ta) g tt te σ H Q = ta σ H fun vs H1 => rngR3 vs H1 fun J H2 => compR J g tt te (compSt nv ix σ) H2 fun ys H' => ys.length ≤ sizeLine ∧ ∀ l, H' l = none → Q (.ref l) (upd H' l (.lst ys)) := rfl
theorem rngR1_int {j : Int} {R : It → Hp → Prop} : rngR1 [.int j] H R = ((-(2 ^ 62) ≤ j ∧ j < 2 ^ 62) ∧ R (Itr 0 j.toNat) H) := rfl
theorem rngR2_int {i j : Int} {R : It → Hp → Prop} : rngR2 [.int i, .int j] H R = ((-(2 ^ 62) ≤ i ∧ i < 2 ^ 62 ∧ -(2 ^ 62) ≤ j ∧ j < 2 ^ 62) ∧ R (Itr i (j - i).toNat) H) := rfl
theorem rngR3_int {i j c : Int} {R : It → Hp → Prop} : rngR3 [.int i, .int j, .int c] H R = ((-(2 ^ 61) ≤ i ∧ i < 2 ^ 61 ∧ -(2 ^ 61) ≤ j ∧ j < 2 ^ 61 ∧ 0 < c ∧ c < 1000000) ∧ R (ItrS i c (rcount i j c)) H) := rfl
end
section
variable {X : Cx} {tg : Expr}
theorem pj_range1 {a : Expr} {ta : TA} {p pos : Pos} (hg : Gl X "range") (hm : X.mg "range" = none) (ha : PA X [a] ta) (hs : starEach [a] X.env = [(false, eval a X.env)] := by rfl) : PI X tg (.Call (.Name "range" p) [a] [] pos) (jRng1 ta) := by
 intro pins s σ H R I h
 refine Call_ (ld_blt I hg hm boot_range (PyProof.Rows.callWith_type1 (thn (ha pos pins s σ H _ I h) fun us s1 ⟨vs, H1, I1, r1, q1⟩ => ?_) hs rfl))
 replace q1 : rngR1 vs H1 R := q1
 unfold rngR1 at q1
 split at q1
 ·obtain ⟨⟨q1, q2⟩, q⟩ := q1
  cases r1 with
  | cons r rr =>
   cases rr
   obtain ⟨t, rfl⟩ := r
   exact call_range_1 (range_it I1 (by omega) (by omega) q1 q2 (by simpa using q))
 ·exact q1.elim
end
section
variable {K : PySem.W.Frag} {g : TG} {tb : TS} {D : Ends} {σ : St} {H : Hp}
theorem fo_list {a : Addr} {xs : List V} (hS : SqL K H a xs) (Pv : Nat → St → Hp → Prop) (h0 : Pv 0 σ H) (hl : ∀ i σ H, i ≤ xs.length → Pv i σ H → SqL K H a xs)
  (hs : ∀ i x σ H, xs[i]? = some x → Pv i σ H → g x σ H fun σ2 H2 => tb { D with nx := Pv (i + 1), ct := Pv (i + 1), bk := D.nx } σ2 H2) (hd : ∀ σ H, Pv xs.length σ H → D.nx σ H) :
  seqR K (.ref a) H fun J H2 => forR J g tb D σ H2 := .inl ⟨xs, hS, for_list Pv h0 hl hs hd⟩
theorem fo_tup {a : Addr} {xs : List V} (hS : SqT K H a xs) (Pv : Nat → St → Hp → Prop) (h0 : Pv 0 σ H) (hl : ∀ i σ H, i ≤ xs.length → Pv i σ H → SqT K H a xs)
  (hs : ∀ i x σ H, xs[i]? = some x → Pv i σ H → g x σ H fun σ2 H2 => tb { D with nx := Pv (i + 1), ct := Pv (i + 1), bk := D.nx } σ2 H2) (hd : ∀ σ H, Pv xs.length σ H → D.nx σ H) :
  seqR K (.ref a) H fun J H2 => forR J g tb D σ H2 := .inr ⟨xs, hS, for_tup Pv h0 hl hs hd⟩
theorem fo_rng {lo : Int} {n : Nat} (Pv : Nat → St → Hp → Prop) (h0 : Pv 0 σ H)
  (hs : ∀ (i : Nat) σ H, i < n → Pv i σ H → g (.int (lo + i)) σ H fun σ2 H2 => tb { D with nx := Pv (i + 1), ct := Pv (i + 1), bk := D.nx } σ2 H2) (hd : ∀ σ H, Pv n σ H → D.nx σ H) :
  forR (Itr lo n) g tb D σ H := for_range Pv h0 hs hd
end
section
variable {K : PySem.W.Frag} {tt : TT} {te : TE} {H : Hp} {tail : St} {Q : List V → Hp → Prop} {p : V → Bool} {f : V → V}
theorem comp_pure {J : It} {n : Nat} {xs : List V} (hn : xs.length = n) (hz : n ≤ sizeLine) (go : ∀ i, i < n → J.go i H) (stop : J.stop n H) (yl : ∀ i x H', i < n → J.yld i H x H' → H' = H ∧ xs[i]? = some x)
  (ht : ∀ x ∈ xs, ∀ Q : Bool → Hp → Prop, Q (p x) H → tt (some x :: tail) H Q) (he : ∀ x ∈ xs, p x = true → ∀ Q : VK, Q (f x) H → te (some x :: tail) H Q) (q : Q ((xs.filter p).map f) H) :
  compR J (gName 0) tt te (none :: tail) H Q := by
 refine ⟨fun i m ys σ' H' => i ≤ n ∧ m = n - i ∧ ys = ((xs.take i).filter p).map f ∧ (∃ v, σ' = v :: tail) ∧ H' = H, ⟨n, Nat.zero_le _, rfl, by simp, ⟨_, rfl⟩, rfl⟩, ?_⟩
 rintro i m ys σ' H' ⟨hi, rfl, rfl, ⟨v, rfl⟩, rfl⟩
 by_cases e : i = n
 ·subst e
  refine .inl ⟨stop, ?_⟩
  rw [List.take_of_length_le (by omega)]
  exact q
 ·have hlt : i < n := by omega
  refine .inr ⟨go i hlt, ?_, fun ys' σ'' H'' => ys' = ((xs.take (i + 1)).filter p).map f ∧ (∃ v, σ'' = v :: tail) ∧ H'' = H', fun ys' σ'' H'' ⟨a, b, c⟩ => ⟨n - (i + 1), by omega, by omega, rfl, a, b, c⟩, fun x H'' y => ?_⟩
  ·have h1 : (((xs.take i).filter p).map f).length ≤ i := by
    rw [List.length_map]
    exact Nat.le_trans (List.length_filter_le _ _) (by rw [List.length_take]; omega)
   omega
  ·obtain ⟨rfl, hx⟩ := yl i x H'' hlt y
   have hm : x ∈ xs := List.mem_of_getElem? hx
   have tk : xs.take (i + 1) = xs.take i ++ [x] := by
    rw [List.take_succ, hx]; rfl
   show tt _ _ _
   refine ht x hm _ ?_
   cases hp : p x with
   | true =>
    rw [if_pos rfl]
    refine he x hm hp _ ⟨?_, ⟨_, rfl⟩, rfl⟩
    rw [tk, List.filter_append, List.map_append]
    simp [hp]
   | false =>
    rw [if_neg Bool.false_ne_true]
    refine ⟨?_, ⟨_, rfl⟩, rfl⟩
    rw [tk, List.filter_append, List.map_append]
    simp [hp]
theorem co_list {a : Addr} {xs : List V} (hS : SqL K H a xs) (hz : xs.length ≤ sizeLine) (ht : ∀ x ∈ xs, ∀ Q : Bool → Hp → Prop, Q (p x) H → tt (some x :: tail) H Q) (he : ∀ x ∈ xs, p x = true → ∀ Q : VK, Q (f x) H → te (some x :: tail) H Q) (q : Q ((xs.filter p).map f) H) :
  seqR K (.ref a) H fun J H2 => compR J (gName 0) tt te (none :: tail) H2 Q :=
 .inl ⟨xs, hS, comp_pure (n := xs.length) rfl hz (fun i hi => ⟨xs, xs[i], hS, by simp [hi]⟩) ⟨xs, hS, Nat.le_refl _⟩ (fun i x H' hi y => ⟨y.1, y.2 xs hS⟩) ht he q⟩
theorem co_tup {a : Addr} {xs : List V} (hS : SqT K H a xs) (hz : xs.length ≤ sizeLine) (ht : ∀ x ∈ xs, ∀ Q : Bool → Hp → Prop, Q (p x) H → tt (some x :: tail) H Q) (he : ∀ x ∈ xs, p x = true → ∀ Q : VK, Q (f x) H → te (some x :: tail) H Q) (q : Q ((xs.filter p).map f) H) :
  seqR K (.ref a) H fun J H2 => compR J (gName 0) tt te (none :: tail) H2 Q :=
 .inr ⟨xs, hS, comp_pure (n := xs.length) rfl hz (fun i hi => ⟨xs, xs[i], hS, by simp [hi]⟩) ⟨xs, hS, Nat.le_refl _⟩ (fun i x H' hi y => ⟨y.1, y.2 xs hS⟩) ht he q⟩
theorem compSt_one {ix : List Nat} {σ : St} : compSt 1 ix σ = none :: ix.map fun i => (σ[i]?).join := rfl
end
end L2
set_option maxRecDepth 100000
namespace L2
open PySem PySem.Spec PyProof.Rows
section
variable {X : Cx}
noncomputable def rIsB (neg : Bool) : R2 := fun x y H Q => match y with
 | .bl b => Q (.bl (if neg then !decide (x = .bl b) else decide (x = .bl b))) H
 | _ => False
theorem dec_blbl {a b : Bool} : decide (V.bl a = V.bl b) = decide (a = b) := by
 cases a <;> cases b <;> decide
theorem rIsB_bl {a b : Bool} {H : Hp} {Q : VK} : rIsB false (.bl a) (.bl b) H Q = Q (.bl (decide (a = b))) H := by
 show Q (.bl (if false = true then _ else decide (V.bl a = V.bl b))) H = _
 rw [if_neg Bool.false_ne_true, dec_blbl]
theorem rIsnotB_bl {a b : Bool} {H : Hp} {Q : VK} : rIsB true (.bl a) (.bl b) H Q = Q (.bl (!decide (a = b))) H := by
 show Q (.bl (if true = true then !decide (V.bl a = V.bl b) else _)) H = _
 rw [if_pos rfl, dec_blbl]
noncomputable def rIsN (neg : Bool) : R2 := fun x y H Q => match y with
 | .non => Q (.bl (if neg then !decide (x = .non) else decide (x = .non))) H
 | _ => False
theorem op_isNA : OpR X (compareOp .Is) (rIsN false) := OpR.imp op_isN fun x y H Q h => by
 unfold rIsN at h
 split at h
 ·exact ⟨rfl, h⟩
 ·exact h.elim
theorem rIsN_f {x : V} {H : Hp} {Q : VK} : rIsN false x .non H Q = Q (.bl (decide (x = .non))) H := rfl
theorem rIsN_t {x : V} {H : Hp} {Q : VK} : rIsN true x .non H Q = Q (.bl (!decide (x = .non))) H := rfl
noncomputable def rBitlen : V → List V → Hp → VK → Prop := fun x vs H Q => match x, vs with
 | .int i, [] => Q (.int ((Builtin.Int.intBits i : Nat) : Int)) H
 | _, _ => False
theorem tyV_int {K : PySem.W.Frag} {i : Int} {H : Hp} : tyV K "int" (.int i) H = True := by
 show ("int" = "int") = True
 simp
theorem tyV_str {K : PySem.W.Frag} {z : Str} {H : Hp} : tyV K "str" (.str z) H = True := by
 show ("str" = "str") = True
 simp
theorem rBitlen_int {i : Int} {H : Hp} {Q : VK} : rBitlen (.int i) [] H Q = Q (.int ((Builtin.Int.intBits i : Nat) : Int)) H := rfl
noncomputable def rSlS : V → Option Int → Option Int → Hp → VK → Prop := fun x lo hi H Q => ∃ z, x = .str z ∧ z.length ≤ sizeLine ∧ Q (.str (Txt.slice z lo hi)) H
theorem part_val {v : Value} {o : Option Int} (h : IsPart v o) : ∃ l : Option (Int × Tok), v = partValue l ∧ l.map (·.1) = o := by
 cases h with
 | none => exact ⟨none, rfl, rfl⟩
 | int i t => exact ⟨some (i, t), rfl, rfl⟩
theorem sl_str : SlR X rSlS := by
 intro pins s σ H x v vl vu lo hi sl Q I rx hs pl pu h
 obtain ⟨z, rfl, hz, q⟩ := h
 obtain ⟨t, rfl⟩ := rx
 obtain ⟨l, rfl, el⟩ := part_val pl
 obtain ⟨u, rfl, eu⟩ := part_val pu
 refine ⟨"str", _, F.slot_str_getitem.lookup, typeIs_str _ _ _, wpAny_getItem_str_slice (l := l) (u := u) (st := none) hs rfl ?_⟩
 unfold sliceMade
 have e : slicePicked z l u none = Builtin.Str.strSliceIndices lo hi 1 z.length := by
  unfold slicePicked
  rw [el, eu]
  rfl
 rw [e]
 have hq : Txt.slice z lo hi = if ((1 : Int) == 1 && (Builtin.Str.strSliceIndices lo hi 1 z.length).length == z.length) = true then z else ⟨((Builtin.Str.strSliceIndices lo hi 1 z.length).filterMap (z.cps[·]?)).toArray⟩ := rfl
 have hle := Txt.slice_le z lo hi
 rw [hq] at q hle
 show (if ((1 : Int) == 1 && (Builtin.Str.strSliceIndices lo hi 1 z.length).length == z.length) = true then Made.val (.str z t) else _).post _ s
 by_cases c : ((1 : Int) == 1 && (Builtin.Str.strSliceIndices lo hi 1 z.length).length == z.length) = true
 ·rw [if_pos c] at q ⊢
  exact ⟨.str z, H, I, ⟨t, rfl⟩, q⟩
 ·rw [if_neg c] at q hle ⊢
  exact ⟨Nat.le_trans hle hz, .str _, H, I.tok _, ⟨_, rfl⟩, q⟩
noncomputable def rSlA (K : PySem.W.Frag) : V → Option Int → Option Int → Hp → VK → Prop := fun x lo hi H Q => match x with
 | .ref a => (∃ xs, SqL K H a xs ∧ ∀ p, H p = none → Q (.ref p) (upd H p (.lst (cutV xs lo hi)))) ∨ rSlT K (.ref a) lo hi H Q
 | .str z => z.length ≤ sizeLine ∧ Q (.str (Txt.slice z lo hi)) H
 | _ => False
theorem SlR.imp {r r' : V → Option Int → Option Int → Hp → VK → Prop} (h : SlR X r) (i : ∀ x lo hi H Q, r' x lo hi H Q → r x lo hi H Q) : SlR X r' :=
 fun pins s σ H x v vl vu lo hi sl Q I rx hs pl pu q => h pins s σ H x v vl vu lo hi sl Q I rx hs pl pu (i _ _ _ _ _ q)
theorem sl_A : SlR X (rSlA X.K) := by
 refine SlR.imp (sl_list.or (sl_tup.or sl_str)) fun x lo hi H Q h => ?_
 unfold rSlA at h
 split at h
 ·rcases h with ⟨xs, h1, h2⟩ | h
  ·exact .inl ⟨_, xs, rfl, h1, h2⟩
  ·exact .inr (.inl h)
 ·exact .inr (.inr ⟨_, rfl, h.1, h.2⟩)
 ·exact h.elim
theorem rSlA_str {K : PySem.W.Frag} {z : Str} {lo hi : Option Int} {H : Hp} {Q : VK} : rSlA K (.str z) lo hi H Q = (z.length ≤ sizeLine ∧ Q (.str (Txt.slice z lo hi)) H) := rfl
theorem rSlA_list {K : PySem.W.Frag} {a : Addr} {xs : List V} {lo hi : Option Int} {H : Hp} {Q : VK} (hS : SqL K H a xs) (h : ∀ p, H p = none → Q (.ref p) (upd H p (.lst (cutV xs lo hi)))) : rSlA K (.ref a) lo hi H Q := .inl ⟨xs, hS, h⟩
noncomputable def rInA (K : PySem.W.Frag) (neg : Bool) : R2 := fun x y H Q => match y with
 | .ref p => ∃ xs, (SqL K H p xs ∨ SqT K H p xs) ∧ flatV x = true ∧ xs.all flatV = true ∧ Q (.bl (if neg then !inV x xs else inV x xs)) H
 | .str j => (match x with
  | .str i => Q (.bl (if neg then !(!(Builtin.Str.occurrences j i 0 j.length 1).isEmpty) else !(Builtin.Str.occurrences j i 0 j.length 1).isEmpty)) H
  | _ => False)
 | _ => False
theorem op_inA : OpR X (compareOp .In) (rInA X.K false) := by
 refine OpR.imp (OpR.or op_in_seq op_in_str) fun x y H Q h => ?_
 unfold rInA at h
 split at h
 ·obtain ⟨xs, h1, h2, h3, h4⟩ := h
  exact .inl ⟨_, xs, rfl, h1, h2, h3, h4⟩
 ·split at h
  ·exact .inr ⟨_, _, rfl, rfl, h⟩
  ·exact h.elim
 ·exact h.elim
theorem rInA_ref {K : PySem.W.Frag} {neg : Bool} {x : V} {p : Addr} {H : Hp} {Q : VK} : rInA K neg x (.ref p) H Q = (∃ xs, (SqL K H p xs ∨ SqT K H p xs) ∧ flatV x = true ∧ xs.all flatV = true ∧ Q (.bl (if neg then !inV x xs else inV x xs)) H) := rfl
theorem rInA_str {K : PySem.W.Frag} {neg : Bool} {i j : Str} {H : Hp} {Q : VK} : rInA K neg (.str i) (.str j) H Q = Q (.bl (if neg then !(!(Builtin.Str.occurrences j i 0 j.length 1).isEmpty) else !(Builtin.Str.occurrences j i 0 j.length 1).isEmpty)) H := rfl
end
inductive Dt where
 | non | int (i : Int) | str (z : Str) | l (ds : List Dt) | t (ds : List Dt)
noncomputable def Den (K : PySem.W.Frag) (H : Hp) : Nat → V → Dt → Prop
 | 0, x, d => (x = .non ∧ d = .non) ∨ (∃ i, x = .int i ∧ d = .int i) ∨ (∃ z, x = .str z ∧ d = .str z)
 | n + 1, x, d => Den K H n x d ∨ (∃ a xs ds, x = .ref a ∧ d = .l ds ∧ SqL K H a xs ∧ Paired (Den K H n) xs ds) ∨ (∃ a xs ds, x = .ref a ∧ d = .t ds ∧ SqT K H a xs ∧ Paired (Den K H n) xs ds)
theorem Paired.get {α β : Type} {F : α → β → Prop} : ∀ {xs : List α} {ys : List β} {i : Nat} {x : α}, Paired F xs ys → xs[i]? = some x → ∃ y, ys[i]? = some y ∧ F x y
 | _, _, _, _, .nil, e => by simp at e
 | _, _, 0, _, .cons r _, e => by simp at e; subst e; exact ⟨_, rfl, r⟩
 | _, _, i + 1, x, .cons _ t, e => by
  obtain ⟨u, h1, h2⟩ := Paired.get (i := i) (x := x) t (by simpa using e)
  exact ⟨u, by simpa using h1, h2⟩
open Classical in
theorem all_range_eq {α : Type} {xs ys : List α} {e : Nat → Bool} (hl : xs.length = ys.length) (h : ∀ j a b, xs[j]? = some a → ys[j]? = some b → e j = decide (a = b)) : (List.range xs.length).all e = decide (xs = ys) := by
 rw [Bool.eq_iff_iff, List.all_eq_true, decide_eq_true_eq]
 constructor
 ·intro q
  refine List.ext_getElem hl fun j h1 h2 => ?_
  have := q j (List.mem_range.mpr h1)
  rw [h j xs[j] ys[j] (by simp [h1]) (by simp [h2]), decide_eq_true_eq] at this
  exact this
 ·rintro rfl j hj
  have hj' := List.mem_range.mp hj
  rw [h j xs[j] xs[j] (by simp [hj']) (by simp [hj']), decide_eq_true_eq]
section
variable {X : Cx} {pins : List (Addr × Obj)} {σ : St} {H : Hp} {s : Shared}
open Classical in
theorem paired_det {F G : V → Dt → Prop} : ∀ {xs : List V} {ds es : List Dt}, Paired F xs ds → Paired G xs es → (∀ x d e, F x d → G x e → d = e) → ds = es
 | _, _, _, .nil, .nil, _ => rfl
 | _, _, _, .cons r t, .cons r' t', f => by rw [f _ _ _ r r', paired_det t t' f]
theorem list_not_tuple {a : Addr} {xs ys : List V} (I : Inv X pins σ H s) (h : SqL X.K H a xs) (h' : SqT X.K H a ys) : False := by
 obtain ⟨its, _, p, _⟩ := I.list h
 obtain ⟨its', _, p', _⟩ := I.tuple h'
 obtain ⟨o, n, e, c, _⟩ := p
 obtain ⟨o', e', c', _⟩ := p'
 rw [e] at e'
 cases e'
 rw [c] at c'
 injection c' with z
 exact absurd z (by decide)
theorem size_ne {its its2 : List Value} (h : ¬ its.length = its2.length) : (its.toArray.size != its2.toArray.size) = true := by
 rw [List.size_toArray, List.size_toArray, bne_iff_ne]
 exact h
open Classical in
open Classical in
theorem all_items {ds es : List Dt} {n : Nat} (hn : n = ds.length) (hl : ds.length = es.length) : (List.range n).all (fun j => decide (ds[j]? = es[j]?)) = decide (ds = es) := by
 subst hn
 exact all_range_eq hl fun j a b ha hb => by
  rw [ha, hb, Bool.eq_iff_iff, decide_eq_true_eq, decide_eq_true_eq]
  exact ⟨fun q => Option.some.inj q, fun q => by rw [q]⟩
open Classical in
end
noncomputable def rEqA (K : PySem.W.Frag) (neg : Bool) : R2 := fun x y H Q => match x, y with
 | .ref a, .ref b => ∃ n d e, n ≤ 60 ∧ Den K H n (.ref a) d ∧ Den K H n (.ref b) e ∧ ((d = e ∧ Q (.bl (!neg)) H) ∨ (d ≠ e ∧ Q (.bl neg) H))
 | x, y => scal x y = true ∧ Q (.bl (if neg then !decide (x = y) else decide (x = y))) H
section
variable {X : Cx}
open Classical in
open Classical in
end
section
variable {K : PySem.W.Frag} {H : Hp} {Q : VK}
theorem rEqA_int {i j : Int} : rEqA K false (.int i) (.int j) H Q = Q (.bl (decide (i = j))) H := by
 show (scal (.int i) (.int j) = true ∧ Q (.bl (if false = true then _ else decide (V.int i = V.int j))) H) = _
 rw [if_neg Bool.false_ne_true]
 exact rEq_int
theorem rNeA_int {i j : Int} : rEqA K true (.int i) (.int j) H Q = Q (.bl (!decide (i = j))) H := by
 show (scal (.int i) (.int j) = true ∧ Q (.bl (if true = true then !decide (V.int i = V.int j) else _)) H) = _
 rw [if_pos rfl]
 exact rNe_int
theorem rEqA_str {i j : Str} : rEqA K false (.str i) (.str j) H Q = Q (.bl (decide (i = j))) H := by
 show (scal (.str i) (.str j) = true ∧ Q (.bl (if false = true then _ else decide (V.str i = V.str j))) H) = _
 rw [if_neg Bool.false_ne_true]
 exact rEq_str
theorem rNeA_str {i j : Str} : rEqA K true (.str i) (.str j) H Q = Q (.bl (!decide (i = j))) H := by
 show (scal (.str i) (.str j) = true ∧ Q (.bl (if true = true then !decide (V.str i = V.str j) else _)) H) = _
 rw [if_pos rfl]
 exact rNe_str
theorem rEqA_bl {i j : Bool} : rEqA K false (.bl i) (.bl j) H Q = Q (.bl (decide (i = j))) H := by
 show (scal (.bl i) (.bl j) = true ∧ Q (.bl (if false = true then _ else decide (V.bl i = V.bl j))) H) = _
 rw [if_neg Bool.false_ne_true]
 exact rEq_bl
theorem rNeA_bl {i j : Bool} : rEqA K true (.bl i) (.bl j) H Q = Q (.bl (!decide (i = j))) H := by
 show (scal (.bl i) (.bl j) = true ∧ Q (.bl (if true = true then !decide (V.bl i = V.bl j) else _)) H) = _
 rw [if_pos rfl]
 exact rNe_bl
end
end L2
set_option maxRecDepth 100000
namespace L2
open PySem PySem.Spec PyProof.Rows
noncomputable def csOk (osc scope : Scope) (ON N : List Str) (nv : Nat) (ix : List Nat) : Bool :=
 scope.kind == .function && scope.names.all (fun y => y.2 != .cell && (y.2 != .local || scope.names.lookup y.1 == some .local) && (y.2 != .free || (osc.names.lookup y.1 == some .cell || osc.names.lookup y.1 == some .free))) &&
  N.length == nv + ix.length && (List.range ix.length).all fun j => match N[nv + j]?, ix[j]? with
   | some y, some i => ON[i]? == some y && (osc.names.lookup y == some .cell || osc.names.lookup y == some .free) && scope.names.lookup y == some .free
   | _, _ => false
theorem cs_of {X : Cx} {scope : Scope} {N : List Str} {nv : Nat} {ix : List Nat} (h : csOk X.env.scope scope X.N N nv ix = true) : CScope X scope N nv ix := by
 unfold csOk at h
 simp only [Bool.and_eq_true, beq_iff_eq, List.all_eq_true, List.mem_range, Bool.or_eq_true, bne_iff_ne, ne_eq] at h
 obtain ⟨⟨⟨h1, h2⟩, h3⟩, h4⟩ := h
 refine ⟨h1, fun y hy => (h2 y hy).1.1, fun y hy hl => ?_, fun y hy hf => ?_, h3, fun j y e => ?_⟩
 ·rcases (h2 y hy).1.2 with z | z
  ·exact absurd hl z
  ·exact z
 ·rcases (h2 y hy).2 with z | z
  ·exact absurd hf z
  ·exact z
 ·have hj : j < ix.length := by
   have := (List.getElem?_eq_some_iff.mp e).1
   omega
  have q := h4 j hj
  rw [e, List.getElem?_eq_getElem hj] at q
  simp only [Bool.and_eq_true, beq_iff_eq, Bool.or_eq_true] at q
  exact ⟨ix[j], List.getElem?_eq_getElem hj, q.1.1, q.1.2, q.2⟩
noncomputable def tTC (K : PySem.W.Frag) (vs : List V) : TE := fun _ H Q => ∀ a, (∀ H, SqT K H a vs) → (∀ H, tyV K "tuple" (.ref a) H) → Q (.ref a) H
theorem all_range_bools (bs : List Bool) : (List.range bs.length).all (fun i => bs.getD i false) = bs.all id := by
 rw [Bool.eq_iff_iff, List.all_eq_true, List.all_eq_true]
 constructor
 ·intro h b hb
  obtain ⟨i, hi, rfl⟩ := List.getElem_of_mem hb
  have := h i (List.mem_range.mpr hi)
  simpa [List.getD, hi] using this
 ·intro h i hi
  have hi' := List.mem_range.mp hi
  have := h bs[i] (List.getElem_mem hi')
  simpa [List.getD, hi'] using this
theorem any_range_bools (bs : List Bool) : (List.range bs.length).any (fun i => bs.getD i false) = bs.any id := by
 rw [Bool.eq_iff_iff, List.any_eq_true, List.any_eq_true]
 constructor
 ·rintro ⟨i, hi, h⟩
  have hi' := List.mem_range.mp hi
  exact ⟨bs[i], List.getElem_mem hi', by simpa [List.getD, hi'] using h⟩
 ·rintro ⟨b, hb, h⟩
  obtain ⟨i, hi, rfl⟩ := List.getElem_of_mem hb
  exact ⟨i, List.mem_range.mpr hi, by simpa [List.getD, hi] using h⟩
theorem preSum_eq (ns : List Int) : ∀ n, n ≤ ns.length → preSum (fun i => ns.getD i 0) n = (ns.take n).sum
 | 0, _ => by simp [preSum]
 | n + 1, h => by
  rw [preSum, preSum_eq ns n (by omega), List.take_succ, List.sum_append]
  simp [List.getD, show n < ns.length by omega]
section
variable {X : Cx}
noncomputable def rAll (K : PySem.W.Frag) (any : Bool) : List V → Hp → VK → Prop := fun xs H Q => match xs with
 | [.ref p] => ∃ bs : List Bool, SqL K H p (bs.map V.bl) ∧ Q (.bl (if any then bs.any id else bs.all id)) H
 | _ => False
theorem truth_bools {prog : Program} {w : World} {A : Around} {bs : List Bool} {its : List Value} (r : Vals (bs.map V.bl) its) : TruthOf prog w A (fun i v => its.toArray[i]? = some v) (fun i => bs.getD i false) := by
 intro i v s Q E hP hQ
 have hP' : its[i]? = some v := by simpa using hP
 have hi : i < bs.length := by
  have := (List.getElem?_eq_some_iff.mp hP').1
  have l := r.length
  rw [List.length_map] at l
  omega
 obtain ⟨u, hu, ru⟩ := r.get (i := i) (x := .bl bs[i]) (by rw [List.getElem?_map, List.getElem?_eq_getElem hi]; rfl)
 rw [hP'] at hu
 cases hu
 cases ru
 have e : bs.getD i false = bs[i] := by simp [List.getD, hi]
 replace hQ : Q (bs.getD i false) s := hQ
 rw [e] at hQ
 exact wpAny_truthy_bool hQ
theorem call_all (hc : X.calm = true) : CallR X (.builtin "all") (rAll X.K false) := by
 intro pins s σ H xs us Q I rs q
 unfold rAll at q
 split at q
 ·rename_i p
  obtain ⟨u, rfl, ru⟩ := vals1 rs
  cases ru
  obtain ⟨bs, hS, q⟩ := q
  obtain ⟨its, r, pl, hz⟩ := I.list hS
  have hlt : p < s.heap.objs.size := by obtain ⟨o, e, _⟩ := pl.isList; exact Heap.lt_size e
  have hlen := r.length
  rw [List.length_map] at hlen
  refine call_all_walk (wpAny_pyIter_list pl.isList ⟨s.heap.objs.size, _, _, _, _, _, _, rfl, Walks.list (A := X.A.in1) (I.ok.hd hc) s.heap.objs.size p (Nat.ne_of_lt hlt) its.toArray, ⟨⟨_, Heap.get?_push_size _ rfl, rfl, rfl⟩, pl.isList.push _⟩, truth_bools r, fun h' tk hk => ?_⟩)
  refine ⟨.bl _, H, I.kept (h' := h') (t' := tk) fun b o e => hk b o (fun z => lt_ne e (Nat.le_refl _) (List.mem_singleton.mp z)) (Heap.get?_push_of_some _ e), ?_, q⟩
  rw [List.size_toArray, ← hlen, all_range_bools]
  rfl
 ·exact q.elim
theorem call_any (hc : X.calm = true) : CallR X (.builtin "any") (rAll X.K true) := by
 intro pins s σ H xs us Q I rs q
 unfold rAll at q
 split at q
 ·rename_i p
  obtain ⟨u, rfl, ru⟩ := vals1 rs
  cases ru
  obtain ⟨bs, hS, q⟩ := q
  obtain ⟨its, r, pl, hz⟩ := I.list hS
  have hlt : p < s.heap.objs.size := by obtain ⟨o, e, _⟩ := pl.isList; exact Heap.lt_size e
  have hlen := r.length
  rw [List.length_map] at hlen
  refine call_any_walk (wpAny_pyIter_list pl.isList ⟨s.heap.objs.size, _, _, _, _, _, _, rfl, Walks.list (A := X.A.in1) (I.ok.hd hc) s.heap.objs.size p (Nat.ne_of_lt hlt) its.toArray, ⟨⟨_, Heap.get?_push_size _ rfl, rfl, rfl⟩, pl.isList.push _⟩, truth_bools r, fun h' tk hk => ?_⟩)
  refine ⟨.bl _, H, I.kept (h' := h') (t' := tk) fun b o e => hk b o (fun z => lt_ne e (Nat.le_refl _) (List.mem_singleton.mp z)) (Heap.get?_push_of_some _ e), ?_, q⟩
  rw [List.size_toArray, ← hlen, any_range_bools]
  rfl
 ·exact q.elim
noncomputable def rSum (K : PySem.W.Frag) : List V → Hp → VK → Prop := fun xs H Q => match xs with
 | [.ref p] => ∃ ns : List Int, SqL K H p (ns.map V.int) ∧ Q (.int ns.sum) H
 | _ => False
theorem call_sum (hc : X.calm = true) : CallR X (.builtin "sum") (rSum X.K) := by
 intro pins s σ H xs us Q I rs q
 unfold rSum at q
 split at q
 ·rename_i p
  obtain ⟨u, rfl, ru⟩ := vals1 rs
  cases ru
  obtain ⟨ns, hS, q⟩ := q
  obtain ⟨its, r, pl, hz⟩ := I.list hS
  have hlt : p < s.heap.objs.size := by obtain ⟨o, e, _⟩ := pl.isList; exact Heap.lt_size e
  have hlen := r.length
  rw [List.length_map] at hlen
  refine call_sum_walkG (wpAny_pyIter_list pl.isList ⟨s.heap.objs.size, _, _, _, _, _, fun i => ns.getD i 0, rfl, Walks.list (A := X.A.in1) (I.ok.hd hc) s.heap.objs.size p (Nat.ne_of_lt hlt) its.toArray, ⟨⟨_, Heap.get?_push_size _ rfl, rfl, rfl⟩, pl.isList.push _⟩, fun b hb => ?_, fun i v hv => ?_, fun h' tk t' hk => ?_⟩)
  ·have : b = s.heap.objs.size ∨ b = p := by simpa using hb
   show b < (s.heap.push _).objs.size
   rw [Heap.size_push]
   rcases this with rfl | rfl
   ·exact Nat.lt_succ_self _
   ·exact Nat.lt_succ_of_lt hlt
  ·have hP' : its[i]? = some v := by simpa using hv
   have hi : i < ns.length := by
    have := (List.getElem?_eq_some_iff.mp hP').1
    omega
   obtain ⟨u, hu, ru⟩ := r.get (i := i) (x := .int ns[i]) (by rw [List.getElem?_map, List.getElem?_eq_getElem hi]; rfl)
   rw [hP'] at hu
   cases hu
   obtain ⟨t, rfl⟩ := ru
   exact ⟨t, by simp [List.getD, hi]⟩
  ·refine ⟨.int ns.sum, H, I.kept (h' := h') (t' := tk) fun b o e => hk b o (fun z => lt_ne e (Nat.le_refl _) (List.mem_singleton.mp z)) (Heap.get?_push_of_some _ e), ⟨t', ?_⟩, q⟩
   rw [List.size_toArray, ← hlen, preSum_eq ns ns.length (Nat.le_refl _), List.take_length]
 ·exact q.elim
theorem rAll_ref {K : PySem.W.Frag} {p : Addr} {H : Hp} {Q : VK} : rAll K false [.ref p] H Q = (∃ bs : List Bool, SqL K H p (bs.map V.bl) ∧ Q (.bl (bs.all id)) H) := rfl
theorem rAny_ref {K : PySem.W.Frag} {p : Addr} {H : Hp} {Q : VK} : rAll K true [.ref p] H Q = (∃ bs : List Bool, SqL K H p (bs.map V.bl) ∧ Q (.bl (bs.any id)) H) := rfl
theorem rSum_ref {K : PySem.W.Frag} {p : Addr} {H : Hp} {Q : VK} : rSum K [.ref p] H Q = (∃ ns : List Int, SqL K H p (ns.map V.int) ∧ Q (.int ns.sum) H) := rfl
noncomputable def rListA (K : PySem.W.Frag) : List V → Hp → VK → Prop := fun xs H Q => match xs with
 | [.ref p] => ∃ ys, (SqL K H p ys ∨ SqT K H p ys) ∧ ∀ l, H l = none → Q (.ref l) (upd H l (.lst ys))
 | _ => False
theorem call_listA : CallR X (.type "list") (rListA X.K) := CallR.imp call_list_of fun xs H Q h => by
 unfold rListA at h
 split at h
 ·obtain ⟨ys, h1, h2⟩ := h
  exact ⟨_, ys, rfl, h1, h2⟩
 ·exact h.elim
noncomputable def rTupleA (K : PySem.W.Frag) : List V → Hp → VK → Prop := fun xs H Q => match xs with
 | [.ref p] => ∃ ys, (SqL K H p ys ∧ ∀ l, H l = none → Q (.ref l) (upd H l (.tup ys))) ∨ (SqT K H p ys ∧ Q (.ref p) H)
 | _ => False
theorem rListA_ref {K : PySem.W.Frag} {p : Addr} {H : Hp} {Q : VK} : rListA K [.ref p] H Q = (∃ ys, (SqL K H p ys ∨ SqT K H p ys) ∧ ∀ l, H l = none → Q (.ref l) (upd H l (.lst ys))) := rfl
theorem rTupleA_ref {K : PySem.W.Frag} {p : Addr} {H : Hp} {Q : VK} : rTupleA K [.ref p] H Q = (∃ ys, (SqL K H p ys ∧ ∀ l, H l = none → Q (.ref l) (upd H l (.tup ys))) ∨ (SqT K H p ys ∧ Q (.ref p) H)) := rfl
noncomputable def rDivmodA : List V → Hp → VK → Prop := fun xs H Q => match xs with
 | [.int i, .int j] => CDiv i j ∧ ∀ p, H p = none → Q (.ref p) (upd H p (.tup [.int (i / j), .int (i % j)]))
 | _ => False
theorem rDivmodA_int {i j : Int} {H : Hp} {Q : VK} : rDivmodA [.int i, .int j] H Q = (CDiv i j ∧ ∀ p, H p = none → Q (.ref p) (upd H p (.tup [.int (i / j), .int (i % j)]))) := rfl
noncomputable def rAppendA : V → List V → Hp → VK → Prop := fun x vs H Q => match x, vs with
 | .ref l, [y] => ∃ xs, H l = some (.lst xs) ∧ xs.length < sizeLine ∧ Q .non (upd H l (.lst (xs ++ [y])))
 | _, _ => False
theorem mt_appendA : MtR X "list.append" rAppendA := by
 intro pins s σ H x xs v us Q I rx rs q
 unfold rAppendA at q
 split at q
 ·obtain ⟨ys, h1, h2, h3⟩ := q
  exact mt_append pins s σ H _ _ v us Q I rx rs ⟨_, ys, _, rfl, rfl, h1, h2, h3⟩
 ·exact q.elim
theorem pe_append {o e : Expr} {to te : TE} {apos cpos : Pos} (ho : PE X o to) (he : PE X e te) (hbase : attributeBase o "append" X.env (eval o X.env) = eval o X.env := by rfl)
  (hfew : ((backTo cpos (starEach [e] X.env)).all (fun x => !x.1) && (backToKw cpos (keywordEach [] X.env)).all (fun x => x.1.isSome)
   && decide ([e].length + ([] : List Keyword).length + (if ([] : List Keyword).isEmpty then 0 else 1) < 30)) = true := by rfl)
  (hline : (apos.endLine == cpos.line) = true := by rfl) (hs : starEach [e] X.env = (false, eval e X.env) :: starEach [] X.env := by rfl) (hplain : (backTo cpos (starEach [] X.env)).any (·.1) = false := by rfl) :
  PE X (.Call (.Attribute o "append" apos) [e] [] cpos) (tBM X.K "list" rAppendA to (tCons te tNil)) :=
 pe_bm F.plainAttrs_list F.slot_list_append F.type_list_append mt_appendA ho (pa_cons he pa_nil hs) hbase hfew hline hs hplain
theorem tyV_list {K : PySem.W.Frag} {a : Addr} {xs : List V} {H : Hp} (h : SqL K H a xs) : tyV K "list" (.ref a) H := .inl ⟨rfl, xs, h⟩
theorem rAppendA_ref {l : Addr} {y : V} {H : Hp} {Q : VK} : rAppendA (.ref l) [y] H Q = (∃ xs, H l = some (.lst xs) ∧ xs.length < sizeLine ∧ Q .non (upd H l (.lst (xs ++ [y])))) := rfl
noncomputable def rSetA : V → V → V → Hp → (Hp → Prop) → Prop := fun o i v H Q => match o, i with
 | .ref p, .int k => ∃ xs j, H p = some (.lst xs) ∧ ixN xs.length k = some j ∧ Q (upd H p (.lst (xs.set j v)))
 | _, _ => False
theorem rSetA_ref {p : Addr} {k : Int} {v : V} {H : Hp} {Q : Hp → Prop} : rSetA (.ref p) (.int k) v H Q = (∃ xs j, H p = some (.lst xs) ∧ ixN xs.length k = some j ∧ Q (upd H p (.lst (xs.set j v)))) := rfl
noncomputable def rIxA (K : PySem.W.Frag) : R2 := fun x y H Q => match x, y with
 | .ref p, .int i => ∃ xs v, (SqL K H p xs ∨ SqT K H p xs) ∧ atI xs i = some v ∧ Q v H
 | .str z, .int i => ∃ c, z.length ≤ sizeLine ∧ atI z.cps.toList i = some c ∧ Q (.str ⟨#[c]⟩) H
 | _, _ => False
theorem IxR.imp {r r' : R2} (h : IxR X r) (i : ∀ x y H Q, r' x y H Q → r x y H Q) : IxR X r' := fun value slice pins s σ H x y v u Q I rx ry q hs => h value slice pins s σ H x y v u Q I rx ry (i _ _ _ _ q) hs
theorem ix_A : IxR X (rIxA X.K) := IxR.imp ix_seq fun x y H Q h => by
 unfold rIxA at h
 split at h
 ·obtain ⟨xs, v, h1, h2, h3⟩ := h
  rcases h1 with h1 | h1
  ·exact .inl ⟨_, xs, _, v, rfl, rfl, h1, h2, h3⟩
  ·exact .inr (.inl ⟨_, xs, _, v, rfl, rfl, h1, h2, h3⟩)
 ·obtain ⟨c, h1, h2, h3⟩ := h
  exact .inr (.inr ⟨_, _, c, rfl, rfl, h1, h2, h3⟩)
 ·exact h.elim
theorem rIxA_str {K : PySem.W.Frag} {z : Str} {i : Int} {H : Hp} {Q : VK} : rIxA K (.str z) (.int i) H Q = (∃ c, z.length ≤ sizeLine ∧ atI z.cps.toList i = some c ∧ Q (.str ⟨#[c]⟩) H) := rfl
theorem ixA_list {K : PySem.W.Frag} {p : Addr} {i : Int} {H : Hp} {Q : VK} {xs : List V} {v : V} (h : SqL K H p xs) (e : atI xs i = some v) (q : Q v H) : rIxA K (.ref p) (.int i) H Q := ⟨xs, v, .inl h, e, q⟩
theorem ixA_tup {K : PySem.W.Frag} {p : Addr} {i : Int} {H : Hp} {Q : VK} {xs : List V} {v : V} (h : SqT K H p xs) (e : atI xs i = some v) (q : Q v H) : rIxA K (.ref p) (.int i) H Q := ⟨xs, v, .inr h, e, q⟩
theorem ixA_ints {K : PySem.W.Frag} {H : Hp} {a : Addr} {ns : List Int} {k : Int} {Q : VK} (hS : SqL K H a (ns.map V.int)) (h0 : 0 ≤ k) (h1 : k < (ns.length : Int)) (q : Q (.int (ns.getD k.toNat 0)) H) : rIxA K (.ref a) (.int k) H Q := by
 refine ixA_list hS ?_ q
 obtain ⟨j, rfl⟩ : ∃ j : Nat, k = (j : Int) := ⟨k.toNat, by omega⟩
 refine atI_nat ?_
 have hj : j < ns.length := by omega
 rw [List.getElem?_map, List.getElem?_eq_getElem hj]
 simp [List.getD, hj]
end
section
variable {K : PySem.W.Frag} {H : Hp} {σ : St}
theorem gTup_ref {n : Nat} {t : TGs} {a : Addr} {Q : St → Hp → Prop} : gTup K n t (.ref a) σ H Q = (∃ xs, SqT K H a xs ∧ xs.length = n ∧ t xs σ H Q) := by
 apply propext
 constructor
 ·rintro ⟨b, xs, e, h⟩
  cases e
  exact ⟨xs, h⟩
 ·rintro ⟨xs, h⟩
  exact ⟨a, xs, rfl, h⟩
theorem gCons_cons {t : TG} {u : TGs} {v : V} {r : List V} {Q : St → Hp → Prop} : gCons t u (v :: r) σ H Q = t v σ H fun σ' H' => u r σ' H' Q := by
 apply propext
 constructor
 ·rintro ⟨v', r', e, h⟩
  cases e
  exact h
 ·intro h
  exact ⟨v, r, rfl, h⟩
theorem gNil_nil {Q : St → Hp → Prop} : gNil [] σ H Q = Q σ H := by
 apply propext
 exact ⟨fun h => h.2, fun h => ⟨rfl, h⟩⟩
theorem ex_int {i : Int} {P : Int → Prop} : (∃ k, V.int i = .int k ∧ P k) = P i := by
 apply propext
 constructor
 ·rintro ⟨k, e, q⟩
  cases e; exact q
 ·intro q; exact ⟨i, rfl, q⟩
theorem small_line {n : Nat} (h : n ≤ 1000) : (n ≤ sizeLine) = True := by
 have := sizeLine_eq
 simp only [eq_iff_iff, iff_true]
 omega
theorem small_lt {n : Nat} (h : n ≤ 1000) : (n < sizeLine) = True := by
 have := sizeLine_eq
 simp only [eq_iff_iff, iff_true]
 omega
end
end L2
set_option maxRecDepth 100000
namespace L2
open PySem PySem.Spec PyProof.Rows
section
variable {X : Cx} (K : PySem.W.Frag) (h : X.K = K)
theorem op_addK (h : X.K = K) : OpR X (binaryOp .Add) (rAddA K) := h ▸ op_addA
theorem call_lenK (h : X.K = K) : CallR X (.builtin "len") (rLenA K) := h ▸ call_lenA
theorem call_isiK (h : X.K = K) : CallR X (.builtin "isinstance") (rIsi K) := h ▸ call_isi
theorem op_inK (h : X.K = K) : OpR X (compareOp .In) (rInA K false) := h ▸ op_inA
theorem sl_K (h : X.K = K) : SlR X (rSlA K) := h ▸ sl_A
theorem ix_K (h : X.K = K) : IxR X (rIxA K) := h ▸ ix_A
theorem pi_seqK {tg l : Expr} {tl : TE} (h : X.K = K) (hl : PE X l tl) : PI X tg l (iSeq K tl) := h ▸ pi_seq hl
theorem call_allK (h : X.K = K) (hc : X.calm = true) : CallR X (.builtin "all") (rAll K false) := h ▸ call_all hc
theorem call_anyK (h : X.K = K) (hc : X.calm = true) : CallR X (.builtin "any") (rAll K true) := h ▸ call_any hc
theorem call_sumK (h : X.K = K) (hc : X.calm = true) : CallR X (.builtin "sum") (rSum K) := h ▸ call_sum hc
theorem call_listK (h : X.K = K) : CallR X (.type "list") (rListA K) := h ▸ call_listA
theorem pg_tupK {es : List Expr} {k : Nat} {pos : Pos} {t : TGs} {n : Nat} (h : X.K = K) (hc : X.calm = true) (hh : PGs X es t)
  (hn : (assignEach es X.env).length = n := by rfl) (hst : (assignEach es X.env).findIdx? (·.1) = none := by rfl) : PG X (.Tuple es k pos) (gTup K n t) := h ▸ pg_tup hc hh hn hst
theorem pe_appendK {o e : Expr} {to te : TE} {apos cpos : Pos} (h : X.K = K) (ho : PE X o to) (he : PE X e te) (hbase : attributeBase o "append" X.env (eval o X.env) = eval o X.env := by rfl)
  (hfew : ((backTo cpos (starEach [e] X.env)).all (fun x => !x.1) && (backToKw cpos (keywordEach [] X.env)).all (fun x => x.1.isSome)
   && decide ([e].length + ([] : List Keyword).length + (if ([] : List Keyword).isEmpty then 0 else 1) < 30)) = true := by rfl)
  (hline : (apos.endLine == cpos.line) = true := by rfl) (hs : starEach [e] X.env = (false, eval e X.env) :: starEach [] X.env := by rfl) (hplain : (backTo cpos (starEach [] X.env)).any (·.1) = false := by rfl) :
  PE X (.Call (.Attribute o "append" apos) [e] [] cpos) (tBM K "list" rAppendA to (tCons te tNil)) := h ▸ pe_append ho he hbase hfew hline hs hplain
end
noncomputable def tMid (t u : TS) : TS := fun D σ H => ∃ M : St → Hp → Prop, t { D with nx := M } σ H ∧ ∀ σ' H', M σ' H' → u D σ' H'
theorem pss_mid {X : Cx} {st : Stmt} {rest : List Stmt} {t u : TS} (h1 : PS X st t) (h2 : PSs X rest u) : PSs X (st :: rest) (tMid t u) := by
 intro pins s σ H D I ⟨M, h, k⟩
 refine wpAny_execs_cons (thn (h1 pins s σ H { D with nx := M } I h) fun f s1 q => ?_)
 cases f with
 | next =>
  obtain ⟨σ', H', I', q⟩ := q
  exact h2 pins s1 σ' H' D I' (k σ' H' q)
 | ret v => exact q
 | brk => exact q
 | cont => exact q
end L2
set_option maxRecDepth 100000
namespace L2
open PySem PySem.Spec PyProof.Rows
noncomputable def isStar : Expr → Bool
 | .Starred .. => true
 | _ => false
theorem starEach_of {e : Expr} {es : List Expr} {env : Env} (h : isStar e = false) : starEach (e :: es) env = (false, eval e env) :: starEach es env := by
 cases e <;> first | rfl | exact absurd h (by simp [isStar])
theorem noStars {pos : Pos} {env : Env} : ∀ {es : List Expr}, es.any isStar = false → (backTo pos (starEach es env)).any (·.1) = false
 | [], _ => rfl
 | e :: es, h => by
  rw [List.any_cons, Bool.or_eq_false_iff] at h
  rw [starEach_of h.1]
  show (false || (backTo pos (starEach es env)).any (·.1)) = false
  rw [noStars h.2]
  rfl
theorem assignEach_of {e : Expr} {es : List Expr} {env : Env} (h : isStar e = false) : (assignEach (e :: es) env).map (·.2) = assign e env :: (assignEach es env).map (·.2) := by
 cases e <;> first | rfl | exact absurd h (by simp [isStar])
theorem assignEach_len {env : Env} : ∀ {es : List Expr}, (assignEach es env).length = es.length
 | [] => rfl
 | e :: es => by
  have ih := @assignEach_len env es
  cases e <;> (show (assignEach es env).length + 1 = es.length + 1; rw [ih])
theorem assignEach_nostar {env : Env} : ∀ {es : List Expr}, es.any isStar = false → (assignEach es env).findIdx? (·.1) = none
 | [], _ => rfl
 | e :: es, h => by
  rw [List.any_cons, Bool.or_eq_false_iff] at h
  have ih := assignEach_nostar (env := env) h.2
  have e1 : assignEach (e :: es) env = (false, assign e env) :: assignEach es env := by
   have := h.1
   cases e <;> first | rfl | exact absurd this (by simp [isStar])
  rw [e1, List.findIdx?_cons, ih]
  rfl
noncomputable def plainTest : Expr → Bool
 | .UnaryOp .Not _ _ => false
 | .BoolOp .. => false
 | .IfExp .. => false
 | .Compare .. => false
 | _ => true
theorem isTrue_of {e : Expr} {env : Env} (h : plainTest e = true) (whole : Sem Value) : isTrue e env whole = (do let v ← whole; standAt e.pos; holding [v] (truthy v)) := by
 cases e with
 | UnaryOp op a p => cases op <;> first | rfl | exact absurd h (by simp [plainTest])
 | BoolOp => exact absurd h (by simp [plainTest])
 | IfExp => exact absurd h (by simp [plainTest])
 | Compare => exact absurd h (by simp [plainTest])
 | _ => rfl
section
variable {X : Cx} {CX : CXT} {k n : Nat} {ps : List Str} {sp : Sp} {x : Str} {p pos : Pos} {e : Expr} {es : List Expr} {t : TA} {te : TE} {id T : String} {r : List V → Hp → VK → Prop}
theorem pa_q (ha : PE X e te) (hr : PA X es t) (h : isStar e = false := by rfl) : PA X (e :: es) (tCons te t) := pa_cons ha hr (starEach_of h)
theorem pe_fnQ [Quiet CX] (G : FnAt X.prog X.w X.K X.mg X.base CX x k ps sp) (hr : Room n X.A) (hk : k ≤ n) (hg : Gl X x) (ha : PA X (e :: es) t)
  (hdb : (x == ("__debug__" : Str)) = false := by decide) (h : (e :: es).any isStar = false := by rfl) : PE X (.Call (.Name x p) (e :: es) [] pos) (tCall sp [] E0 t) := by
 rw [List.any_cons, Bool.or_eq_false_iff] at h
 exact pe_fn G hr hk hg ha hdb (starEach_of h.1) (noStars h.2)
theorem pe_callBQ (hc : CallR X (.builtin id) r) (hg : Gl X x) (hm : X.mg x = none) (hv : bootBuiltins x = some (.builtin id)) (ha : PA X (e :: es) t) (hn : x ≠ "__name__" := by decide) (hdb : (x == ("__debug__" : Str)) = false := by decide)
  (h : (e :: es).any isStar = false := by rfl) : PE X (.Call (.Name x p) (e :: es) [] pos) (tCB r t) := by
 rw [List.any_cons, Bool.or_eq_false_iff] at h
 exact pe_callB hc hg hm hv ha hn hdb (starEach_of h.1) (noStars h.2)
theorem pe_callTyQ (hc : CallR X (.type T) r) (hg : Gl X x) (hm : X.mg x = none) (hv : bootBuiltins x = some (.type T)) (ha : PA X (e :: es) t) (hn : x ≠ "__name__" := by decide) (hdb : (x == ("__debug__" : Str)) = false := by decide)
  (h : (e :: es).any isStar = false := by rfl) : PE X (.Call (.Name x p) (e :: es) [] pos) (tCB r t) := by
 rw [List.any_cons, Bool.or_eq_false_iff] at h
 exact pe_callTy hc hg hm hv ha hn hdb (starEach_of h.1) (noStars h.2)
theorem pgs_q {g : TG} {u : TGs} (h1 : PG X e g) (h2 : PGs X es u) (h : isStar e = false := by rfl) : PGs X (e :: es) (gCons g u) := pgs_cons h1 h2 (assignEach_of h)
theorem pg_tupQ (K : PySem.W.Frag) {j n : Nat} {u : TGs} (hK : X.K = K) (hc : X.calm = true) (hh : PGs X es u) (hn : es.length = n := by rfl) (h : es.any isStar = false := by rfl) : PG X (.Tuple es j pos) (gTup K n u) :=
 pg_tupK K hK hc hh (by rw [assignEach_len]; exact hn) (assignEach_nostar h)
theorem pt_q (he : PE X e te) (h : plainTest e = true := by rfl) : PT X e (tB te) := pt_val he (isTrue_of h)
end
end L2
namespace L2
open PySem PySem.Spec PyProof.Rows
noncomputable def isComp : Expr → Bool
 | .ListComp .. => true
 | .SetComp .. => true
 | .DictComp .. => true
 | _ => false
noncomputable def isTup : Expr → Bool
 | .Tuple .. => true
 | _ => false
noncomputable def isSetE : Expr → Bool
 | .Set .. => true
 | _ => false
theorem swaps_of {e : Expr} {tg : Option Expr} {l : Nat} {env : Env} (h : isComp e = false) : swapsWith e tg l env = pure false := by
 cases e <;> first | rfl | exact absurd h (by simp [isComp])
theorem stores_of {tg e : Expr} {env : Env} (h : isTup e = false) : swappedStores [tg] e env = pure none := by
 cases e with
 | Tuple => simp [isTup] at h
 | _ => cases tg <;> rfl
theorem nomarkQ {op : CmpOp} {b : Expr} (h : isSetE b = false) : behindInMarks op b = false := by
 cases b <;> first | rfl | exact absurd h (by simp [isSetE])
section
variable {X : Cx} {pos : Pos}
theorem ps_asgQ {tg e : Expr} {te : TE} {g : TG} (he : PE X e te) (hg : PG X tg g) (h1 : isComp e = false := by rfl) (h2 : isTup e = false := by rfl) (h3 : isStar tg = false := by rfl) : PS X (.Assign [tg] e pos) (tAsg te g) :=
 ps_asg he hg (swaps_of h1) (stores_of h2) (assignEach_of h3)
theorem ps_setQ {i : Nat} {x : Str} {e : Expr} {te : TE} {pos' : Pos} (hN : X.N.Nodup) (hi : X.N[i]? = some x) (hx : Loc X.env.scope x) (he : PE X e te) (h : isComp e = false := by rfl) (hf : X.fn x = true ∨ X.env.scope.names.lookup x = some .local := by first | exact .inl rfl | exact .inr rfl | assumption) :
  PS X (.Assign [.Name x pos'] e pos) (tAsg te (gName i)) := ps_set hN hi hx he (swaps_of h) hf
theorem ps_exprQ {e : Expr} {te : TE} (he : PE X e te) (h : isComp e = false := by rfl) : PS X (.Expr e pos) (tDrop te) := ps_expr he (swaps_of h)
end
end L2
namespace L2
open PySem PySem.Spec PyProof.Rows
noncomputable def tCs (vs : List V) : TA := fun _ H Q => Q vs H
end L2
namespace L2
open PySem PySem.Spec PyProof.Rows
end L2
namespace BitM
end BitM
namespace Rem
end Rem
namespace BitI
open PySem L2
end BitI
namespace Com
open PySem L2
theorem same_upd {H : Hp} {p : Addr} {o : HO} (h : H p = none) : Same H (upd H p o) := fun b u e => by rw [upd_ne (ne_of_none e h)]; exact e
theorem same_lst {K : PySem.W.Frag} {H H' : Hp} {a : Addr} {xs : List V} (e : Same H H') (h : SqL K H a xs) : SqL K H' a xs := e.seq h
theorem cut_ints {ns : List Int} {lo hi : Option Int} : cutV (ns.map V.int) lo hi = ((ns.drop (HT.sIx ns.length 0 lo)).take (HT.sIx ns.length ns.length hi - HT.sIx ns.length 0 lo)).map V.int := by
 unfold cutV
 rw [List.length_map, List.map_take, List.map_drop]
theorem upd_old {H : Hp} {p q : Addr} {o x : HO} (h : H p = some x) (hn : H q = none) : upd H q o p = some x := by rw [upd_ne (ne_of_none h hn)]; exact h
theorem addA_lists {K : PySem.W.Frag} {H : Hp} {Q : VK} {l b : Addr} {xs zs : List V} (h1 : H l = some (.lst xs)) (h2 : H b = some (.lst zs)) (hz : xs.length + zs.length ≤ sizeLine) (q : ∀ p, H p = none → Q (.ref p) (upd H p (.lst (xs ++ zs)))) : rAddA K (.ref l) (.ref b) H Q :=
 .inl ⟨l, b, xs, zs, rfl, rfl, h1, h2, hz, q⟩
theorem map_int_get {ns : List Int} {i : Nat} {x : V} (h : (ns.map V.int)[i]? = some x) : ∃ c, x = .int c ∧ ns[i]? = some c := by
 rw [List.getElem?_map] at h
 cases e : ns[i]? with
 | none => rw [e] at h; cases h
 | some c => rw [e] at h; cases h; exact ⟨c, rfl, rfl⟩
theorem small_ok {n : Nat} (h : n ≤ 1000) : n ≤ sizeLine := by rw [sizeLine_eq]; omega
theorem isi_list {K : PySem.W.Frag} {H : Hp} {a : Addr} {xs : List V} {Q : VK} (h : H a = some (.lst xs)) (q : Q (.bl true) H) : rIsi K [.ref a, .ty "list"] H Q := ⟨_, true, .lst h, kit_ll K, q⟩
theorem isi_tup {K : PySem.W.Frag} {H : Hp} {a : Addr} {xs : List V} {Q : VK} (h : H a = some (.tup xs)) (q : Q (.bl true) H) : rIsi K [.ref a, .ty "tuple"] H Q := ⟨_, true, .tup h, kit_tt K, q⟩
end Com
set_option maxRecDepth 100000
namespace L2
open PySem PySem.Spec PyProof.Rows
structure KlsAt (K : PySem.W.Frag) (mg : Str → Option Value) (x : Str) (C : Addr) : Prop where
 mgC : mg x = some (.ref C)
 cl : Cls K C
 mks : PySem.W.makesIn K C = true
 kp : PySem.W.keepIn K (.ref C) = true
noncomputable def MethAt (K : PySem.W.Frag) (C : Addr) (m q : Str) (st : Stmt) : Prop := ∃ f fd, Fun K m q st f fd ∧ Meth K C m f
noncomputable def MtAt (P : Program) (w : World) (K : PySem.W.Frag) (mg : Str → Option Value) (base : Heap) (CX : CXT) (C : Addr) (m : Str) (k : Nat) (ps : List Str) (sp : Sp) : Prop :=
 ∃ f fd, FnOk P w K mg base CX k f fd ps sp ∧ Meth K C m f ∧ Binds K fd ps []
theorem klsat_mk {K : PySem.W.Frag} {h : Heap} {mg : Str → Option Value} {x : Str} {C : Addr} (X : K.In h) (G : h.Ns mainGlobals mg) (a : PySem.W.nsIn K mainGlobals x = some (some (.ref C)))
  (pg : PySem.W.plainGet K C Str.empty = true) (hd : PySem.W.hasDictIn K C = true) (po : PySem.W.plainOver K C = true) (sa : PySem.W.findIn K (.ref C) "__setattr__" = some (some (.builtin "object.__setattr__"))) (mk : PySem.W.makesIn K C = true) (kc : PySem.W.keepIn K (.ref C) = true) : KlsAt K mg x C :=
 ⟨PySem.W.mg_of X G a, ⟨pg, hd, po, sa⟩, mk, kc⟩
theorem methat_mk {K : PySem.W.Frag} {C : Addr} {m q : Str} {st : Stmt} {f : Addr} {oc : Value} {od an : Option Addr} {osl : Array (Option Value)} {kV doc pm cdv ct : Value}
  (a : PySem.W.findIn K (.ref C) m = some (some (.ref f))) (i : PySem.W.isFn K (.ref f) = true)
  (l : K.lookup f = some ⟨oc, od, .func (PySem.W.fnOf m q (defArgs st) (defBody st) (defScope st) .none kV doc pm an cdv ct), osl⟩) (c : PySem.W.codeIn K cdv q = true) (k : PySem.W.keepIn K (.ref f) = true) : MethAt K C m q st :=
 ⟨f, _, fun_mk l c k, ⟨a, i, k⟩⟩
section
variable {P : Program} {w : World} {K : PySem.W.Frag} {mg : Str → Option Value} {base : Heap} {CX : CXT}
theorem MethAt.fn {C : Addr} {m q : Str} {st : Stmt} {N ps : List Str} {k : Nat} {sp : Sp} (F : MethAt K C m q st) (S : FnScope N ps (defScope st))
  (hb : ∀ (kV doc pm : Value) (an : Option Addr) (cdv ct : Value) (us : List Value), us.length = ps.length → bindArgs (PySem.W.fnOf m q (defArgs st) (defBody st) (defScope st) .none kV doc pm an cdv ct) ⟨us, []⟩ = pure (ps.zip us))
  (len : ∀ vs H Q E, sp vs H Q E → vs.length = ps.length)
  (hbody : ∀ (f : Addr) (cdv : Value) (A : Around) (outer : List Env) (s : Shared) (H : Hp) (vs : List V) (Q : VK) (E : XK), Room k (A.deeper (envOfC q (defScope st) s.heap.objs.size f cdv)) → sp vs H Q E →
   ∃ t, PSs (cxOf CX P w K mg base N q (defScope st) f cdv A outer s H E).nox (defBody st) t ∧ t { nx := fun _ H' => Q .non H', rt := Q } (start N vs) H) : MtAt P w K mg base CX C m (k + 1) ps sp := by
 obtain ⟨f, fd, F, hm⟩ := F
 have bd := F.binds hb
 obtain ⟨oc, od, kV, doc, pm, an, cdv, ct, osl, rfl, lk, hcd⟩ := F.ex
 refine ⟨f, _, fn_of lk hcd S len fun A outer s H vs Q E hr hsp => ?_, hm, bd⟩
 obtain ⟨t, h, q⟩ := hbody f cdv A outer s H vs Q E hr hsp
 exact ⟨t, h.nox, q⟩
end
noncomputable def rFld (C : Addr) (f : Str) (x : V) (H : Hp) (Q : VK) : Prop := ∃ a, x = .ref a ∧ ∃ dx fs, H a = some (.ins C dx fs) ∧ ∃ v, fs.lookup f = some v ∧ Q v H
noncomputable def tFldC (C : Addr) (f : Str) (ta : TE) : TE := fun σ H Q => ta σ H fun x H1 => rFld C f x H1 Q
noncomputable def rSetF (C : Addr) (f : Str) (y x : V) (H : Hp) (N : Hp → Prop) : Prop := ∃ a, x = .ref a ∧ ∃ dx fs, H a = some (.ins C dx fs) ∧ fs.length < 1000 ∧ N (upd H a (.ins C dx (putF f y fs)))
noncomputable def sFldC (C : Addr) (f : Str) (ta tv : TE) : TS := fun D σ H => tv σ H fun y H1 => ta σ H1 fun x H2 => rSetF C f y x H2 (D.nx σ)
noncomputable def rAugF (C : Addr) (f : Str) (x : V) (H : Hp) (K : V → (V → Hp → Prop) → Prop) (N : Hp → Prop) : Prop := ∃ a, x = .ref a ∧ ∃ dx fs, H a = some (.ins C dx fs) ∧ ∃ v, fs.lookup f = some v ∧
 K v fun z H3 => ∃ dx' fs', H3 a = some (.ins C dx' fs') ∧ fs'.length < 1000 ∧ N (upd H3 a (.ins C dx' (putF f z fs')))
noncomputable def sAugC (C : Addr) (f : Str) (ta tv : TE) (rd : R2) : TS := fun D σ H => ta σ H fun x H1 => rAugF C f x H1 (fun v R => tv σ H1 fun y H2 => rd v y H2 R) (D.nx σ)
noncomputable def rMt (C : Addr) (m : Str) (x : V) (H : Hp) (N : Prop) : Prop := ∃ a, x = .ref a ∧ ∃ dx fs, H a = some (.ins C dx fs) ∧ fs.lookup m = none ∧ N
noncomputable def tMtC (C : Addr) (m : Str) (sp : Sp) (ta : TE) (t : TA) : TE := fun σ H Q => ta σ H fun x H1 => rMt C m x H1 (t σ H1 fun vs H2 => sp (x :: vs) H2 Q E0)
theorem rFld_ref {C a : Addr} {f : Str} {H : Hp} {Q : VK} : rFld C f (.ref a) H Q = ∃ dx fs, H a = some (.ins C dx fs) ∧ ∃ v, fs.lookup f = some v ∧ Q v H := by
 apply propext; unfold rFld; constructor
 ·rintro ⟨b, e, h⟩; cases e; exact h
 ·exact fun h => ⟨a, rfl, h⟩
theorem rSetF_ref {C a : Addr} {f : Str} {y : V} {H : Hp} {N : Hp → Prop} : rSetF C f y (.ref a) H N = ∃ dx fs, H a = some (.ins C dx fs) ∧ fs.length < 1000 ∧ N (upd H a (.ins C dx (putF f y fs))) := by
 apply propext; unfold rSetF; constructor
 ·rintro ⟨b, e, h⟩; cases e; exact h
 ·exact fun h => ⟨a, rfl, h⟩
theorem rAugF_ref {C a : Addr} {f : Str} {H : Hp} {K : V → (V → Hp → Prop) → Prop} {N : Hp → Prop} : rAugF C f (.ref a) H K N = ∃ dx fs, H a = some (.ins C dx fs) ∧ ∃ v, fs.lookup f = some v ∧
  K v fun z H3 => ∃ dx' fs', H3 a = some (.ins C dx' fs') ∧ fs'.length < 1000 ∧ N (upd H3 a (.ins C dx' (putF f z fs'))) := by
 apply propext; unfold rAugF; constructor
 ·rintro ⟨b, e, h⟩; cases e; exact h
 ·exact fun h => ⟨a, rfl, h⟩
theorem rMt_ref {C a : Addr} {m : Str} {H : Hp} {N : Prop} : rMt C m (.ref a) H N = ∃ dx fs, H a = some (.ins C dx fs) ∧ fs.lookup m = none ∧ N := by
 apply propext; unfold rMt; constructor
 ·rintro ⟨b, e, h⟩; cases e; exact h
 ·exact fun h => ⟨a, rfl, h⟩
theorem ex_ins {C d : Addr} {l : List (Str × V)} {N : Addr → List (Str × V) → Prop} : (∃ dx fs, some (HO.ins C d l) = some (HO.ins C dx fs) ∧ N dx fs) = N d l := by
 apply propext; constructor
 ·rintro ⟨dx, fs, e, h⟩; cases e; exact h
 ·exact fun h => ⟨d, l, rfl, h⟩
theorem ex_som {x : V} {N : V → Prop} : (∃ v, some x = some v ∧ N v) = N x := by
 apply propext; constructor
 ·rintro ⟨v, e, h⟩; cases e; exact h
 ·exact fun h => ⟨x, rfl, h⟩
theorem noattr_mk {K : PySem.W.Frag} {C : Addr} {f : Str} (h : PySem.W.findIn K (.ref C) f = some none) : NoAttr K C f := h
theorem same_new {H : Hp} {x dx C : Addr} {fs : List (Str × V)} (nx : H x = none) (nd : H dx = none) : Same H (upd (upd H dx (.own x)) x (.ins C dx fs)) := fun b o e => by
 rw [upd_ne (ne_of_none e nx), upd_ne (ne_of_none e nd)]; exact e
section
variable {X : Cx} {C : Addr} {o e value : Expr} {es : List Expr} {f m x : Str} {p pos pos' tpos apos : Pos} {ta tv : TE} {t : TA} {k n : Nat} {ps : List Str} {sp : Sp}
theorem pe_fldC (he : PE X e ta) (c : KlsAt X.K X.mg x C) (nn : NoAttr X.K C f) (hb : attributeBase e f X.env (eval e X.env) = eval e X.env) : PE X (.Attribute e f pos) (tFldC C f ta) := by
 intro pins s σ H Q I h
 refine attr_of hb (thn (he pins s σ H _ I h) fun u s1 ⟨x, H1, I1, rx, a, ex, dx, fs, ea, v, l, q⟩ => ?_)
 subst ex
 obtain rfl : u = Value.ref a := rx
 exact getattr_ok I1 ea c.cl nn l fun u' s2 I2 ru => ⟨v, H1, I2, ru, q⟩
theorem ps_fldC (ha : PE X o ta) (hv : PE X value tv) (c : KlsAt X.K X.mg x C) (nn : NoAttr X.K C f) (hs : isComp value = false := by rfl) : PS X (.Assign [.Attribute o f pos'] value pos) (sFldC C f ta tv) := by
 intro pins s σ H D I h
 refine plainObj_wpAny_Assign_Attribute (thn (hv pins s σ H _ I h) fun u s1 ⟨y, H1, I1, ry, q⟩ => thn (ha pins s1 σ H1 _ I1 q) fun ov s2 ⟨x, H2, I2, rx, a, ex, dx, fs, ea, l, q2⟩ => ?_) (swaps_of hs)
 subst ex
 obtain rfl : ov = Value.ref a := rx
 exact setattr_ok I2 ea c.cl nn l ry fun s3 I3 => ⟨σ, _, I3, q2⟩
theorem pe_mkC {CX : CXT} [Quiet CX] (c : KlsAt X.K X.mg x C) (G : MtAt X.prog X.w X.K X.mg X.base CX C "__init__" k ps sp) (hr : Room n X.A) (hk : k + 1 ≤ n) (hg : Gl X x) (ha : PA X (e :: es) t)
  (hdb : (x == ("__debug__" : Str)) = false := by decide) (h : (e :: es).any isStar = false := by rfl) : PE X (.Call (.Name x p) (e :: es) [] pos) (tMake C sp [] E0 t) := by
 obtain ⟨f, fd, F, hm, b⟩ := G
 rw [List.any_cons, Bool.or_eq_false_iff] at h
 exact pe_make ⟨c.mks, hm.at_, hm.fn, c.kp⟩ F (hr.mono hk) hg c.mgC b .nil (Quiet.pass X) ha hdb (starEach_of h.1) (noStars h.2)
end
end L2
set_option maxRecDepth 100000
namespace L2
open PySem PySem.Spec PyProof.Rows
noncomputable def ixO (K : PySem.W.Frag) (p : Addr) (i : Int) (H : Hp) (Q : VK) : Option HO → Prop
 | some (.lst xs) => ∃ v, atI xs i = some v ∧ Q v H
 | some (.tup xs) => ∃ v, atI xs i = some v ∧ Q v H
 | _ => rIxA K (.ref p) (.int i) H Q
noncomputable def rIxB (K : PySem.W.Frag) : R2 := fun x y H Q => match x, y with
 | .ref p, .int i => ixO K p i H Q (H p)
 | x, y => rIxA K x y H Q
theorem rIxB_ref {K : PySem.W.Frag} {p : Addr} {i : Int} {H : Hp} {Q : VK} : rIxB K (.ref p) (.int i) H Q = ixO K p i H Q (H p) := rfl
theorem rIxB_str {K : PySem.W.Frag} {z : Str} {i : Int} {H : Hp} {Q : VK} : rIxB K (.str z) (.int i) H Q = rIxA K (.str z) (.int i) H Q := rfl
theorem ixO_lst {K : PySem.W.Frag} {p : Addr} {i : Int} {H : Hp} {Q : VK} {xs : List V} : ixO K p i H Q (some (.lst xs)) = ∃ v, atI xs i = some v ∧ Q v H := rfl
theorem ixO_tup {K : PySem.W.Frag} {p : Addr} {i : Int} {H : Hp} {Q : VK} {xs : List V} : ixO K p i H Q (some (.tup xs)) = ∃ v, atI xs i = some v ∧ Q v H := rfl
theorem ixO_imp {K : PySem.W.Frag} {p : Addr} {i : Int} {H : Hp} {Q : VK} (h : ixO K p i H Q (H p)) : rIxA K (.ref p) (.int i) H Q := by
 unfold ixO at h
 split at h
 ·rename_i xs e; obtain ⟨v, a, b⟩ := h; exact ixA_list (SqL.of e) a b
 ·rename_i xs e; obtain ⟨v, a, b⟩ := h; exact ixA_tup (SqT.of e) a b
 ·exact h
theorem ix_B {X : Cx} (K : PySem.W.Frag) (h : X.K = K) : IxR X (rIxB K) := IxR.imp (ix_K K h) fun x y H Q h => by
 unfold rIxB at h
 split at h
 ·exact ixO_imp h
 ·exact h
theorem atI_n {α : Type} {xs : List α} {i : Nat} {x : α} (h : xs[i]? = some x) : atI xs (i : Int) = some x := by
 have hl : i < xs.length := (List.getElem?_eq_some_iff.mp h).1
 unfold atI ixN
 rw [if_pos (by omega), if_pos (by omega)]
 exact h
theorem atI_0 {α : Type} {a : α} {l : List α} : atI (a :: l) 0 = some a := atI_n (i := 0) rfl
theorem atI_1 {α : Type} {a b : α} {l : List α} : atI (a :: b :: l) 1 = some b := atI_n (i := 1) rfl
theorem atI_2 {α : Type} {a b c : α} {l : List α} : atI (a :: b :: c :: l) 2 = some c := atI_n (i := 2) rfl
theorem atI_3 {α : Type} {a b c d : α} {l : List α} : atI (a :: b :: c :: d :: l) 3 = some d := atI_n (i := 3) rfl
theorem atI_4 {α : Type} {a b c d e : α} {l : List α} : atI (a :: b :: c :: d :: e :: l) 4 = some e := atI_n (i := 4) rfl
theorem atI_5 {α : Type} {a b c d e f : α} {l : List α} : atI (a :: b :: c :: d :: e :: f :: l) 5 = some f := atI_n (i := 5) rfl
noncomputable def gO (K : PySem.W.Frag) (n : Nat) (t : TGs) (a : Addr) (σ : St) (H : Hp) (Q : St → Hp → Prop) : Option HO → Prop
 | some (.tup xs) => xs.length = n ∧ t xs σ H Q
 | _ => ∃ xs, SqT K H a xs ∧ xs.length = n ∧ t xs σ H Q
noncomputable def gTupB (K : PySem.W.Frag) (n : Nat) (t : TGs) : TG := fun v σ H Q => match v with
 | .ref a => gO K n t a σ H Q (H a)
 | _ => False
theorem gTupB_ref {K : PySem.W.Frag} {n : Nat} {t : TGs} {a : Addr} {σ : St} {H : Hp} {Q : St → Hp → Prop} : gTupB K n t (.ref a) σ H Q = gO K n t a σ H Q (H a) := rfl
theorem gO_tup {K : PySem.W.Frag} {n : Nat} {t : TGs} {a : Addr} {σ : St} {H : Hp} {Q : St → Hp → Prop} {xs : List V} : gO K n t a σ H Q (some (.tup xs)) = (xs.length = n ∧ t xs σ H Q) := rfl
noncomputable def lenO (K : PySem.W.Frag) (p : Addr) (H : Hp) (Q : VK) : Option HO → Prop
 | some (.lst xs) => Q (.int xs.length) H
 | some (.tup xs) => Q (.int xs.length) H
 | _ => rLenA K [.ref p] H Q
noncomputable def rLenB (K : PySem.W.Frag) : List V → Hp → VK → Prop := fun xs H Q => match xs with
 | [.ref p] => lenO K p H Q (H p)
 | xs => rLenA K xs H Q
theorem rLenB_ref {K : PySem.W.Frag} {p : Addr} {H : Hp} {Q : VK} : rLenB K [.ref p] H Q = lenO K p H Q (H p) := rfl
theorem rLenB_str {K : PySem.W.Frag} {z : Str} {H : Hp} {Q : VK} : rLenB K [.str z] H Q = rLenA K [.str z] H Q := rfl
theorem lenO_lst {K : PySem.W.Frag} {p : Addr} {H : Hp} {Q : VK} {xs : List V} : lenO K p H Q (some (.lst xs)) = Q (.int xs.length) H := rfl
theorem lenO_tup {K : PySem.W.Frag} {p : Addr} {H : Hp} {Q : VK} {xs : List V} : lenO K p H Q (some (.tup xs)) = Q (.int xs.length) H := rfl
theorem call_lenB {X : Cx} (K : PySem.W.Frag) (h : X.K = K) : CallR X (.builtin "len") (rLenB K) := CallR.imp (call_lenK K h) fun xs H Q h => by
 unfold rLenB at h
 split at h
 ·rename_i p
  unfold lenO at h
  split at h
  ·rename_i xs e; exact ⟨xs, .inl (SqL.of e), h⟩
  ·rename_i xs e; exact ⟨xs, .inr (SqT.of e), h⟩
  ·exact h
 ·exact h
noncomputable def isiO (K : PySem.W.Frag) (p : Addr) (n : String) (H : Hp) (Q : VK) : Option HO → Prop
 | some (.lst _) => if n = "list" then Q (.bl true) H else rIsi K [.ref p, .ty n] H Q
 | some (.tup _) => if n = "tuple" then Q (.bl true) H else rIsi K [.ref p, .ty n] H Q
 | _ => rIsi K [.ref p, .ty n] H Q
noncomputable def rIsiB (K : PySem.W.Frag) : List V → Hp → VK → Prop := fun xs H Q => match xs with
 | [.ref p, .ty n] => isiO K p n H Q (H p)
 | xs => rIsi K xs H Q
theorem call_isiB {X : Cx} (K : PySem.W.Frag) (h : X.K = K) : CallR X (.builtin "isinstance") (rIsiB K) := CallR.imp (call_isiK K h) fun xs H Q h => by
 unfold rIsiB at h
 split at h
 ·rename_i p n
  unfold isiO at h
  split at h
  ·rename_i xs e
   split at h
   ·rename_i c; subst c; exact Com.isi_list e h
   ·exact h
  ·rename_i xs e
   split at h
   ·rename_i c; subst c; exact Com.isi_tup e h
   ·exact h
  ·exact h
 ·exact h
theorem rIsiB_ref {K : PySem.W.Frag} {p : Addr} {n : String} {H : Hp} {Q : VK} : rIsiB K [.ref p, .ty n] H Q = isiO K p n H Q (H p) := rfl
theorem isiO_tup {K : PySem.W.Frag} {p : Addr} {H : Hp} {Q : VK} {xs : List V} : isiO K p "tuple" H Q (some (.tup xs)) = Q (.bl true) H := by simp [isiO]
theorem isiO_lst {K : PySem.W.Frag} {p : Addr} {H : Hp} {Q : VK} {xs : List V} : isiO K p "list" H Q (some (.lst xs)) = Q (.bl true) H := by simp [isiO]
theorem rIsiB_i {K : PySem.W.Frag} {i : Int} {n : String} {H : Hp} {Q : VK} : rIsiB K [.int i, .ty n] H Q = rIsi K [.int i, .ty n] H Q := rfl
theorem rIsiB_b {K : PySem.W.Frag} {i : Bool} {n : String} {H : Hp} {Q : VK} : rIsiB K [.bl i, .ty n] H Q = rIsi K [.bl i, .ty n] H Q := rfl
theorem rIsiB_s {K : PySem.W.Frag} {i : Str} {n : String} {H : Hp} {Q : VK} : rIsiB K [.str i, .ty n] H Q = rIsi K [.str i, .ty n] H Q := rfl
theorem ex_lst {l : List V} {N : List V → Prop} : (∃ xs, some (HO.lst l) = some (HO.lst xs) ∧ N xs) = N l := by
 apply propext; constructor
 ·rintro ⟨xs, e, h⟩; cases e; exact h
 ·exact fun h => ⟨l, rfl, h⟩
theorem ex_lst2 {l : List V} {k : Int} {N : List V → Nat → Prop} : (∃ xs j, some (HO.lst l) = some (HO.lst xs) ∧ ixN xs.length k = some j ∧ N xs j) = ∃ j, ixN l.length k = some j ∧ N l j := by
 apply propext; constructor
 ·rintro ⟨xs, j, e, h⟩; cases e; exact ⟨j, h⟩
 ·rintro ⟨j, h⟩; exact ⟨l, j, rfl, h⟩
noncomputable def But (p : Addr) (H H' : Hp) : Prop := ∀ b o, H b = some o → b ≠ p → H' b = some o
end L2
namespace MeterM
end MeterM
namespace MeterM
end MeterM
namespace WaysM
end WaysM
set_option maxRecDepth 100000
namespace L2
open PySem PySem.Spec PyProof.Rows
noncomputable def Bd (n : Nat) (x : Int) : Prop := x.natAbs < 2 ^ n
theorem Bd.up {a b : Nat} {x : Int} (h : Bd a x) (hab : a ≤ b) : Bd b x := Nat.lt_of_lt_of_le h (Nat.pow_le_pow_right (by decide) hab)
theorem Bd.of {a : Nat} {x : Int} (h0 : 0 ≤ x) (h : x < 2 ^ a) : Bd a x := by
 unfold Bd
 have e : ((2 ^ a : Nat) : Int) = 2 ^ a := by simp
 omega
theorem Bd.bits {n : Nat} {x : Int} (h : Bd n x) : Builtin.Int.intBits x ≤ n := by
 unfold Builtin.Int.intBits
 split
 ·omega
 ·rename_i c
  have hx : x.natAbs ≠ 0 := by simpa using c
  have := (Nat.log2_lt hx).mpr h
  omega
noncomputable def CMulW (i j : Int) : Prop := CMul i j ∨ (Bd 8000 i ∧ Bd 8000 j)
noncomputable def CDivW (_ j : Int) : Prop := 0 < j ∧ Bd 8000 j
theorem op_mulW {X : Cx} : OpR X (binaryOp .Mult) (rI CMulW fun i j => .int (i * j)) := opI fun _ _ _ _ _ _ _ hc q => mul_int q (by
 rcases hc with hc | ⟨h1, h2⟩
 ·exact hc.ok
 ·exact IntMulOk.of_bits (Nat.le_trans h1.bits (by decide)) (Nat.le_trans h2.bits (by decide)))
theorem op_fdivW {X : Cx} : OpR X (binaryOp .FloorDiv) (rI CDivW fun i j => .int (i / j)) := opI fun i j _ _ _ _ _ hc q => by
 have e : i.fdiv j = i / j := Int.fdiv_eq_ediv_of_nonneg i (Int.le_of_lt hc.1)
 rw [← e] at q
 refine floordiv_int (Int.ne_of_gt hc.1) q (.inl (PyProof.noPylong_of_log2 ?_))
 have hx : j.natAbs ≠ 0 := by have := hc.1; omega
 exact Nat.lt_of_lt_of_le ((Nat.log2_lt hx).mpr hc.2) (by decide)
theorem mulW_l {i j : Int} (h : -(2 ^ 64) < i ∧ i < 2 ^ 64) : CMulW i j := .inl (.inl h)
theorem divW_s {i j : Int} (h0 : 0 < j) (h : j < 1073741824) : CDivW i j := ⟨h0, Bd.up (a := 30) (Bd.of (Int.le_of_lt h0) h) (by decide)⟩
end L2
namespace L2
end L2
namespace WaysI
open PySem L2
end WaysI
set_option maxRecDepth 100000
namespace L2
open PySem PySem.Spec PyProof.Rows
noncomputable def swO (i j : Nat) (D : Ends) (σ : St) (H : Hp) : Option HO → Prop
 | some (.tup [a, b]) => D.nx ((σ.set j (some b)).set i (some a)) H
 | _ => False
noncomputable def swV (i j : Nat) (D : Ends) (σ : St) (v : V) (H : Hp) : Prop := match v with
 | .ref p => swO i j D σ H (H p)
 | _ => False
noncomputable def tSw (i j : Nat) (te : TE) : TS := fun D σ H => te σ H fun v H1 => swV i j D σ v H1
theorem swV_ref {i j : Nat} {D : Ends} {σ : St} {p : Addr} {H : Hp} : swV i j D σ (.ref p) H = swO i j D σ H (H p) := rfl
theorem swO_tup {i j : Nat} {D : Ends} {σ : St} {H : Hp} {a b : V} : swO i j D σ H (some (.tup [a, b])) = D.nx ((σ.set j (some b)).set i (some a)) H := rfl
end L2
set_option maxRecDepth 100000
namespace L2
open PySem PySem.Spec PyProof.Rows
theorem ints_are : ∀ {ns : List Int} {its : List Value}, Vals (ns.map V.int) its → IntsAre its ns
 | [], _, .nil => .nil
 | n :: ns, _, .cons r rr => by
  obtain ⟨t, rfl⟩ := r
  exact .cons n t (ints_are rr)
noncomputable def rMinB (K : PySem.W.Frag) : List V → Hp → VK → Prop := fun xs H Q => match xs with
 | [.int i, .int j] => Q (.int (if j < i then j else i)) H
 | [.ref p] => ∃ ns : List Int, SqL K H p (ns.map V.int) ∧ 0 < ns.length ∧ ∀ M, M ∈ ns → (∀ a, a ∈ ns → M ≤ a) → Q (.int M) H
 | _ => False
noncomputable def rMaxB (K : PySem.W.Frag) : List V → Hp → VK → Prop := fun xs H Q => match xs with
 | [.int i, .int j] => Q (.int (if i < j then j else i)) H
 | [.ref p] => ∃ ns : List Int, SqL K H p (ns.map V.int) ∧ 0 < ns.length ∧ ∀ M, M ∈ ns → (∀ a, a ∈ ns → a ≤ M) → Q (.int M) H
 | _ => False
theorem call_maxB {X : Cx} (K : PySem.W.Frag) (hK : X.K = K) (hc : X.calm = true) : CallR X (.builtin "max") (rMaxB K) := by
 subst hK
 intro pins s σ H xs us Q I rs q
 unfold rMaxB at q
 split at q
 ·exact call_maxA hc pins s σ H _ us Q I rs q
 ·rename_i p
  obtain ⟨u, rfl, ru⟩ := vals1 rs
  cases ru
  obtain ⟨ns, hS, hne, q⟩ := q
  obtain ⟨its, r, pl, hz⟩ := I.list hS
  have hi := ints_are r
  have hl := pl.isList
  obtain ⟨xs, e⟩ := hi.allInts.items
  have hns : ns = xs.toList.map (·.1) := by rw [← hi.numsOf, ← nums_intItems, ← e]
  have hsz : 0 < xs.size := by
   have h3 := hne; rw [hns, List.length_map, Array.length_toList] at h3; exact h3
  rw [e] at hl
  refine max_intList (I.ok.hd hc) hl hsz fun v h' tk hv hk => ?_
  obtain ⟨t, rfl⟩ := intItems_at hv
  obtain ⟨h1, h2⟩ := argBest_gt (numAt xs) (xs.size - 1)
  refine ⟨.int _, H, I.kept (t' := tk) hk, ⟨t, rfl⟩, q _ ?_ fun a ha => ?_⟩
  ·rw [hns, numAt_eq]; exact getD_mem (by rw [List.length_map, Array.length_toList]; omega)
  ·rw [hns] at ha
   obtain ⟨j, hj, rfl⟩ := mem_getD ha
   rw [List.length_map, Array.length_toList] at hj
   rw [← numAt_eq]; exact h2 j (by omega)
 ·exact q.elim
theorem rMinB_ref {K : PySem.W.Frag} {p : Addr} {H : Hp} {Q : VK} : rMinB K [.ref p] H Q = ∃ ns : List Int, SqL K H p (ns.map V.int) ∧ 0 < ns.length ∧ ∀ M, M ∈ ns → (∀ a, a ∈ ns → M ≤ a) → Q (.int M) H := rfl
theorem rMaxB_ref {K : PySem.W.Frag} {p : Addr} {H : Hp} {Q : VK} : rMaxB K [.ref p] H Q = ∃ ns : List Int, SqL K H p (ns.map V.int) ∧ 0 < ns.length ∧ ∀ M, M ∈ ns → (∀ a, a ∈ ns → a ≤ M) → Q (.int M) H := rfl
end L2
set_option maxRecDepth 100000
namespace L2
open PySem PySem.Spec PyProof.Rows
section
variable {X : Cx} {i o e value : Expr} {ti to te tv : TE} {pos pos' apos cpos : Pos}
end
end L2
set_option maxRecDepth 100000
namespace L2
open PySem PySem.Spec PyProof.Rows
end L2
set_option maxRecDepth 100000
namespace L2
open PySem PySem.Spec PyProof.Rows
end L2
set_option maxRecDepth 100000
namespace L2
open PySem PySem.Spec PyProof.Rows
section
variable {X : Cx} {K : PySem.W.Frag}
end
end L2
set_option maxRecDepth 100000
namespace L2
open PySem PySem.Spec PyProof.Rows
section
variable {X : Cx} {a b c d : Expr} {ta tb tc td : TE} {pos : Pos}
end
end L2
set_option maxRecDepth 100000
namespace L2
open PySem PySem.Spec PyProof.Rows
section
variable {X : Cx} {i o e value : Expr} {ti to te tv : TE} {pos pos' apos cpos : Pos}
end
end L2
set_option maxRecDepth 100000
namespace L2
open PySem PySem.Spec PyProof.Rows
noncomputable def Ite (a : Addr) : It :=
 ⟨fun i H => ∃ xs x, H a = some (.lst xs) ∧ xs[i]? = some x, fun i H v H' => ∃ p x, (∀ xs, H a = some (.lst xs) → xs[i]? = some x) ∧ H p = none ∧ v = .ref p ∧ H' = upd H p (.tup [.int i, x]), fun i H => ∃ xs, H a = some (.lst xs) ∧ xs.length ≤ i⟩
section
variable {X : Cx} {pins : List (Addr × Obj)} {σ : St} {H : Hp} {s : Shared} {h' : Heap}
theorem Inv.tupd {t' : Nat} {p : Addr} {ch : List Addr} {xs : List V} (I : Inv X pins σ H s) (k : ∀ b o, b ∉ ch → s.heap.get? b = some o → h'.get? b = some o) (f : ∀ b ∈ ch, FpOk X pins H b)
  (hp : s.heap.objs.size ≤ p) (new : ObjOk X.prog X.w (upd H p (.tup xs)) h' p (.tup xs)) : Inv X pins σ (upd H p (.tup xs)) { s with heap := h', toks := t' } := by
 have hn := I.hok.fresh hp
 have nit : ∀ b u, H b = some u → b ∉ ch := fun b u q z => by rw [(f b z).1] at q; cases q
 refine I.step (g' := s.gens) (d' := s.drawn) (ch := ch) (fun b hb => ?_) (fun b o _ _ hc q _ => k b o hc q) (fun b o _ _ hc q _ => ⟨o.slots, k b o hc q⟩)
  (fun b o _ q n => by rw [upd_ne (Nat.ne_of_lt (Nat.lt_of_lt_of_le (Heap.lt_size q) hp))]; exact n)
  (fun b o hc q => ⟨o, k b o hc q⟩) (fun b xs q => by rw [upd_ne (ne_of_none q hn)]; exact q) (fun b u xs q => by rw [upd_ne (ne_of_none q hn)]; exact q) (fun b ps q => ⟨#[], by rw [upd_ne (ne_of_none q hn), q]; simp⟩) (fun m hm => ?_) (fun b u q => ?_) I.bare
 ·obtain ⟨e0, e1, e2, e3, e4, e5⟩ := f b hb
  exact ⟨e3, e1, e4, e5⟩
 ·obtain ⟨o, es, ep, ho, r⟩ := hm
  exact ⟨o, es, ep, k _ o (fun z => (f _ z).2.1 rfl) ho, r⟩
 ·by_cases hb : b = p
  ·subst hb; rw [upd_same] at q; cases q; exact new
  ·rw [upd_ne hb] at q
   refine (I.hok b u q).stay (fun c v hc q2 => ?_) (fun c q => by rw [upd_ne (ne_of_none q hn)]; exact q) fun c xs q => by rw [upd_ne (ne_of_none q hn)]; exact q
   rcases hc with z | z
   ·subst z; exact k _ v (nit _ u q) q2
   ·exact k c v (nit c _ z) q2
theorem Inv.turnedL {t' : Nat} {ch : List Addr} (I : Inv X pins σ H s) (k : ∀ b o, b ∉ ch → s.heap.get? b = some o → h'.get? b = some o) (f : ∀ b ∈ ch, FpOk X pins H b) : Inv X pins σ H { s with heap := h', toks := t' } := by
 have nit : ∀ b u, H b = some u → b ∉ ch := fun b u q z => by rw [(f b z).1] at q; cases q
 refine I.step (g' := s.gens) (d' := s.drawn) (ch := ch) (fun b hb => ?_) (fun b o _ _ hc q _ => k b o hc q) (fun b o _ _ hc q _ => ⟨o.slots, k b o hc q⟩)
  (fun b o _ q n => n) (fun b o hc q => ⟨o, k b o hc q⟩) (fun b xs q => q) (fun b u xs q => q) (fun b ps q => ⟨#[], by rw [q]; simp⟩) (fun m hm => ?_) (fun b u q => ?_) I.bare
 ·obtain ⟨e0, e1, e2, e3, e4, e5⟩ := f b hb
  exact ⟨e3, e1, e4, e5⟩
 ·obtain ⟨o, es, ep, ho, r⟩ := hm
  exact ⟨o, es, ep, k _ o (fun z => (f _ z).2.1 rfl) ho, r⟩
 ·refine (I.hok b u q).stay (fun c v hc q2 => ?_) (fun c q => q) fun c xs q => q
  rcases hc with z | z
  ·subst z; exact k _ v (nit _ u q) q2
  ·exact k c v (nit c _ z) q2
end
theorem turn_enum {P : Program} {w : World} {K : PySem.W.Frag} {elts : List Expr} {x1} {pos : Pos} (a e it : Addr) (ne : e ≠ it) : Turn P w K (.Tuple elts x1 pos) (Ite a) [e, it] e (fun i h => (∃ old, IsEnum h e it ((i : Nat) : Int) old) ∧ h.IsListIter it a i) where
 mem := by simp
 obj := fun i h st b hb => by
  obtain ⟨⟨old, he⟩, ⟨o, ho, c, d⟩⟩ := st
  have q : b = e ∨ b = it := by simpa using hb
  rcases q with rfl | rfl
  ·exact ⟨_, he, fun v z => by cases z⟩
  ·exact ⟨o, ho, fun v z => by rw [d] at z; cases z⟩
 keep := fun i h h' st k => ⟨st.1.elim fun old he => ⟨old, k e (by simp) _ he⟩, st.2.at fun o q => k it (by simp) o q⟩
 item := by
  intro X hP hw hK hc i pins s σ H E I hf st hg
  subst hP hw hK
  obtain ⟨⟨old, he⟩, hit⟩ := st
  obtain ⟨xs, x, hq, hx⟩ := hg
  obtain ⟨z, its, n, r, eo⟩ := I.hok a _ hq
  obtain ⟨u, hu, ru⟩ := r.get hx
  have fe := hf e (by simp)
  have fi := hf it (by simp)
  have hes : e < s.heap.objs.size := Heap.lt_size he
  have his : it < s.heap.objs.size := by obtain ⟨o, ho, _⟩ := hit; exact Heap.lt_size ho
  have hp := I.hok.fresh (Nat.le_refl s.heap.objs.size)
  refine wpAny_pyNext_enum_item he hit ⟨_, eo, rfl, n, rfl⟩ (x := u) (by simpa using hu) ne fun h1 heo hit1 ht1 hz1 hk1 => ⟨_, rfl, wpAny_letOwnedTupleGo_enum heo fun h2 he2 hs2 => ?_⟩
  replace hs2 : Heap.SameBut e h1 h2 := hs2
  have ht2 : h2.get? s.heap.objs.size = some { cls := .type "tuple", data := .seq #[.int i s.toks, u] } := (hs2.2 _ (Nat.ne_of_gt hes)).trans ht1
  refine ⟨.ref s.heap.objs.size, upd H s.heap.objs.size (.tup [.int i, x]), ?_, rfl, ⟨_, x, fun ys hy => by rw [hq] at hy; cases hy; exact hx, hp, rfl, rfl⟩, ⟨⟨u, ?_⟩, ?_⟩, fun b hb => ?_⟩
  ·refine I.tupd (t' := s.toks + 1) (ch := [e, it]) (fun b o bn q => (hs2.2 b (fun z => bn (by simp [z]))).trans (hk1 b o (fun z => bn (by simp [z])) (fun z => bn (by simp [z])) q)) hf (Nat.le_refl _) ⟨by show 2 ≤ sizeLine; rw [sizeLine_eq]; decide, [.int i s.toks, u], .cons ⟨_, rfl⟩ (.cons ru .nil), ?_⟩
   exact ⟨_, ht2, rfl, _, rfl⟩
  ·have : ((i + 1 : Nat) : Int) = (i : Int) + 1 := by push_cast; rfl
   rw [this]; exact he2
  ·exact hit1.extBut hs2.extBut (Ne.symm ne)
  ·have q : b = e ∨ b = it := by simpa using hb
   rcases q with rfl | rfl
   ·rw [upd_ne (Nat.ne_of_lt hes)]; exact fe.1
   ·rw [upd_ne (Nat.ne_of_lt his)]; exact fi.1
 done := by
  intro X hP hw hK hc i pins s σ H E I hf st hg
  subst hP hw hK
  obtain ⟨⟨old, he⟩, hit⟩ := st
  obtain ⟨xs, hq, hx⟩ := hg
  obtain ⟨z, its, n, r, eo⟩ := I.hok a _ hq
  have hl := r.length
  obtain ⟨f0, f1, f2, f3, f4, f5⟩ := hf it (by simp)
  exact wpAny_pyNext_enum_end (I.ok.hd hc) he hit ⟨_, eo, rfl, n, rfl⟩ (by simp; omega) fun h' eb => ⟨rfl, I.turned (t' := s.toks) (fun b o hb q => eb b o hb q) f0 f1 f3 f4 f5⟩
 self := fun _ _ _ _ _ st h => st.1.elim fun old he => wpAny_pyIter_enum he h
theorem boot_enumerate : bootBuiltins "enumerate" = some (.type "enumerate") := by decide +kernel
noncomputable def enR (x : V) (H1 : Hp) (R : It → Hp → Prop) : Prop := match x with
 | .ref a => ∃ xs, H1 a = some (.lst xs) ∧ R (Ite a) H1
 | _ => False
noncomputable def jEnum (ta : TA) : TI := fun σ H R => ta σ H fun vs H1 => match vs with
 | [x] => enR x H1 R
 | _ => False
section
variable {X : Cx} {elts : List Expr} {x1 : _} {tpos : Pos}
theorem pj_enum {a : Expr} {ta : TA} {p pos : Pos} (hg : Gl X "enumerate") (hm : X.mg "enumerate" = none) (ha : PA X [a] ta) (hs : starEach [a] X.env = [(false, eval a X.env)] := by rfl) : PI X (.Tuple elts x1 tpos) (.Call (.Name "enumerate" p) [a] [] pos) (jEnum ta) := by
 intro pins s σ H R I h
 refine Call_ (ld_blt I hg hm boot_enumerate (PyProof.Rows.callWith_type1 (thn (ha pos pins s σ H _ I h) fun us s1 ⟨vs, H1, I1, r1, q1⟩ => ?_) hs rfl))
 cases r1 with
 | nil => exact q1.elim
 | @cons x u xs us r rr =>
  cases rr with
  | cons _ _ => exact q1.elim
  | nil =>
   replace q1 : enR x H1 R := q1
   unfold enR at q1
   split at q1
   ·rename_i b
    obtain ⟨ys, hb, q⟩ := q1
    cases r
    obtain ⟨z, its, n, rv, eo⟩ := I1.hok b _ hb
    refine call_enumerate_1 eo fun h' he hit hz hk => ?_
    refine wpAny_pyIter_enum he ?_
    refine ⟨_, [s1.heap.objs.size + 1, s1.heap.objs.size], _, _, H1, rfl, I1.kept (t' := s1.toks) fun b o e => hk b o e, turn_enum b (s1.heap.objs.size + 1) s1.heap.objs.size (Nat.succ_ne_self _), ⟨⟨_, he⟩, hit⟩, fun c hc => ?_, q⟩
    have e : c = s1.heap.objs.size + 1 ∨ c = s1.heap.objs.size := by simpa using hc
    rcases e with rfl | rfl
    ·exact I1.fpOk (Nat.le_succ _) (I1.hok.fresh (Nat.le_succ _))
    ·exact I1.fpOk (Nat.le_refl _) (I1.hok.fresh (Nat.le_refl _))
   ·exact q1.elim
end
section
variable {K : PySem.W.Frag} {g : TG} {tb : TS} {D : Ends} {σ : St} {H : Hp} {ta : TA}
theorem tFor_enum : tFor (jEnum ta) g tb D σ H = ta σ H fun vs H1 => match vs with
 | [x] => enR x H1 fun J H2 => forR J g tb D σ H2
 | _ => False := by
 unfold tFor jEnum
 rfl
end
end L2
set_option maxRecDepth 100000
namespace L2
open PySem PySem.Spec PyProof.Rows
section
variable {X : Cx} {o e f : Expr} {to te tf : TE} {apos cpos : Pos}
end
section
variable {X : Cx} {pos : Pos}
structure QE (X : Cx) (e : Expr) (t : TE) : Prop where
 h : PE X e t
structure QS (X : Cx) (st : Stmt) (t : TS) : Prop where
 h : PS X st t
structure QSs (X : Cx) (l : List Stmt) (t : TS) : Prop where
 h : PSs X l t
theorem qss_one {st : Stmt} {t : TS} (h1 : QS X st t) : QSs X [st] t := ⟨pss_one h1.h⟩
theorem qss_cons {st : Stmt} {rest : List Stmt} {t u : TS} (h1 : QS X st t) (h2 : QSs X rest u) : QSs X (st :: rest) (tSeq t u) := ⟨pss_cons h1.h h2.h⟩
theorem qss_mid {st : Stmt} {rest : List Stmt} {t u : TS} (h1 : QS X st t) (h2 : QSs X rest u) : QSs X (st :: rest) (tMid t u) := ⟨pss_mid h1.h h2.h⟩
theorem qs_setQ {i : Nat} {x : Str} {e : Expr} {te : TE} {pos' : Pos} (hN : X.N.Nodup) (hi : X.N[i]? = some x) (hx : Loc X.env.scope x) (he : QE X e te) (h : isComp e = false := by rfl) (hf : X.fn x = true ∨ X.env.scope.names.lookup x = some .local := by first | exact .inl rfl | exact .inr rfl | assumption) :
  QS X (.Assign [.Name x pos'] e pos) (tAsg te (gName i)) := ⟨ps_setQ hN hi hx he.h h hf⟩
end
end L2
set_option maxRecDepth 100000
namespace L2
open PySem PySem.Spec PyProof.Rows
noncomputable def Itz (a b : Addr) : It :=
  ⟨fun i H => ∃ xs ys x y, H a = some (.lst xs) ∧ H b = some (.lst ys) ∧ xs[i]? = some x ∧ ys[i]? = some y,
   fun i H v H' => ∃ p x y, (∀ xs, H a = some (.lst xs) → xs[i]? = some x) ∧ (∀ ys, H b = some (.lst ys) → ys[i]? = some y) ∧ H p = none ∧ v = .ref p ∧ H' = upd H p (.tup [x, y]),
   fun i H => ∃ xs ys, H a = some (.lst xs) ∧ H b = some (.lst ys) ∧ (xs.length ≤ i ∨ ys.length ≤ i)⟩
noncomputable def TnZ (z TI TO i1 i2 a b : Addr) (i : Nat) (h : Heap) : Prop := IsZip h z TI TO .none ∧ IsPair h TI (.ref i1) (.ref i2) ∧ (∃ u v, IsPair h TO u v) ∧ h.IsListIter i1 a i ∧ h.IsListIter i2 b i
theorem turn_zip {P : Program} {w : World} {K : PySem.W.Frag} {elts : List Expr} {x1} {pos : Pos} (a b z TI TO i1 i2 : Addr) (D : ZipApart z TI TO i1 i2 a b) : Turn P w K (.Tuple elts x1 pos) (Itz a b) [z, TI, TO, i1, i2] z (TnZ z TI TO i1 i2 a b) where
 mem := by simp
 obj := fun i h st c hb => by
  obtain ⟨hz, hTI, ⟨u, v, hTO⟩, ⟨o1, ho1, c1, d1⟩, ⟨o2, ho2, c2, d2⟩⟩ := st
  have q : c = z ∨ c = TI ∨ c = TO ∨ c = i1 ∨ c = i2 := by simpa using hb
  rcases q with rfl | rfl | rfl | rfl | rfl
  ·exact ⟨_, hz, fun v z => by cases z⟩
  ·exact ⟨_, hTI, fun v z => by cases z⟩
  ·exact ⟨_, hTO, fun v z => by cases z⟩
  ·exact ⟨o1, ho1, fun v z => by rw [d1] at z; cases z⟩
  ·exact ⟨o2, ho2, fun v z => by rw [d2] at z; cases z⟩
 keep := fun i h h' st k => by
  obtain ⟨hz, hTI, ⟨u, v, hTO⟩, h1, h2⟩ := st
  exact ⟨k z (by simp) _ hz, k TI (by simp) _ hTI, ⟨u, v, k TO (by simp) _ hTO⟩, h1.at fun o q => k i1 (by simp) o q, h2.at fun o q => k i2 (by simp) o q⟩
 item := by
  intro X hP hw hK hc i pins s σ H E I hf st hg
  subst hP hw hK
  obtain ⟨hz, hTI, ⟨u, v, hTO⟩, h1, h2⟩ := st
  obtain ⟨xs, ys, x, y, hqa, hqb, hx, hy⟩ := hg
  obtain ⟨_, its1, n1, r1, eo1⟩ := I.hok a _ hqa
  obtain ⟨_, its2, n2, r2, eo2⟩ := I.hok b _ hqb
  obtain ⟨u1, hu1, ru1⟩ := r1.get hx
  obtain ⟨u2, hu2, ru2⟩ := r2.get hy
  have hp := I.hok.fresh (Nat.le_refl s.heap.objs.size)
  have zs : z < s.heap.objs.size := Heap.lt_size hz
  refine wpAny_pyNext_zip_item D hz hTI hTO h1 h2 ⟨_, eo1, rfl, n1, rfl⟩ ⟨_, eo2, rfl, n2, rfl⟩ (x := u1) (y := u2) (by simpa using hu1) (by simpa using hu2) fun h' hz' hTO' h1' h2' hT' hs' hk' => ⟨_, rfl, wpAny_letOwnedTupleGo_zip hz' fun h'' hz'' hs'' => ?_⟩
  replace hs'' : Heap.SameBut z h' h'' := hs''
  have ht2 : h''.get? s.heap.objs.size = some { cls := .type "tuple", data := .seq #[u1, u2] } := (hs''.2 _ (Nat.ne_of_gt zs)).trans hT'
  have hTI' : IsPair h' TI (.ref i1) (.ref i2) := hk' _ _ D.TIz D.TITO D.TIi1 D.TIi2 hTI
  refine ⟨.ref s.heap.objs.size, upd H s.heap.objs.size (.tup [x, y]), ?_, rfl, ⟨_, x, y, fun zs hzs => by rw [hqa] at hzs; cases hzs; exact hx, fun zs hzs => by rw [hqb] at hzs; cases hzs; exact hy, hp, rfl, rfl⟩, ⟨hz'', (hs''.2 _ D.TIz).trans hTI', ⟨_, _, (hs''.2 _ D.TOz).trans hTO'⟩, h1'.extBut hs''.extBut D.i1z, h2'.extBut hs''.extBut D.i2z⟩, fun c hb => ?_⟩
  ·refine I.tupd (t' := s.toks) (ch := [z, TI, TO, i1, i2]) (fun c o bn q => (hs''.2 c (fun e => bn (by simp [e]))).trans (hk' c o (fun e => bn (by simp [e])) (fun e => bn (by simp [e])) (fun e => bn (by simp [e])) (fun e => bn (by simp [e])) q)) hf (Nat.le_refl _) ⟨by show 2 ≤ sizeLine; rw [sizeLine_eq]; decide, [u1, u2], .cons ru1 (.cons ru2 .nil), ?_⟩
   exact ⟨_, ht2, rfl, _, rfl⟩
  ·have fo := (hf c hb).1
   have cs : c < s.heap.objs.size := by
    have q : c = z ∨ c = TI ∨ c = TO ∨ c = i1 ∨ c = i2 := by simpa using hb
    obtain ⟨_, q1, _⟩ := h1
    obtain ⟨_, q2, _⟩ := h2
    rcases q with rfl | rfl | rfl | rfl | rfl
    ·exact zs
    ·exact Heap.lt_size hTI
    ·exact Heap.lt_size hTO
    ·exact Heap.lt_size q1
    ·exact Heap.lt_size q2
   rw [upd_ne (Nat.ne_of_lt cs)]; exact fo
 done := by
  intro X hP hw hK hc i pins s σ H E I hf st hg
  subst hP hw hK
  obtain ⟨hz, hTI, ⟨u, v, hTO⟩, h1, h2⟩ := st
  obtain ⟨xs, ys, hqa, hqb, hlen⟩ := hg
  obtain ⟨_, its1, n1, r1, eo1⟩ := I.hok a _ hqa
  obtain ⟨_, its2, n2, r2, eo2⟩ := I.hok b _ hqb
  have l1 := r1.length
  have l2 := r2.length
  refine wpAny_pyNext_zip_end (I.ok.hd hc) D hz hTI hTO h1 h2 ⟨_, eo1, rfl, n1, rfl⟩ ⟨_, eo2, rfl, n2, rfl⟩ ?_ fun h' hk => ⟨rfl, I.turnedL (t' := s.toks) (ch := [z, TI, TO, i1, i2]) (fun c o bn q => hk c o (fun e => bn (by simp [e])) (fun e => bn (by simp [e])) (fun e => bn (by simp [e])) (fun e => bn (by simp [e])) q) hf⟩
  rcases hlen with q | q
  ·exact .inl (by simp; omega)
  ·exact .inr (by simp; omega)
 self := fun _ _ _ _ _ st h => wpAny_pyIter_zip st.1 h
theorem boot_zip : bootBuiltins "zip" = some (.type "zip") := by decide +kernel
noncomputable def znR (x y : V) (H1 : Hp) (R : It → Hp → Prop) : Prop := match x, y with
 | .ref a, .ref b => ∃ xs ys, H1 a = some (.lst xs) ∧ H1 b = some (.lst ys) ∧ R (Itz a b) H1
 | _, _ => False
noncomputable def jZip (ta : TA) : TI := fun σ H R => ta σ H fun vs H1 => match vs with
 | [x, y] => znR x y H1 R
 | _ => False
section
variable {X : Cx} {elts : List Expr} {x1 : _} {tpos : Pos}
theorem pj_zip {a b : Expr} {ta : TA} {p pos : Pos} (hg : Gl X "zip") (hm : X.mg "zip" = none) (ha : PA X [a, b] ta) (hs : starEach [a, b] X.env = (false, eval a X.env) :: starEach [b] X.env := by rfl) (hs2 : starEach [b] X.env = [(false, eval b X.env)] := by rfl) : PI X (.Tuple elts x1 tpos) (.Call (.Name "zip" p) [a, b] [] pos) (jZip ta) := by
 intro pins s σ H R I h
 refine Call_ (ld_blt I hg hm boot_zip (PyProof.Rows.callWith_type1 (thn (ha pos pins s σ H _ I h) fun us s1 ⟨vs, H1, I1, r1, q1⟩ => ?_) hs (by rw [hs2]; rfl)))
 cases r1 with
 | nil => exact q1.elim
 | @cons x u xs us r rr =>
  cases rr with
  | nil => exact q1.elim
  | @cons y v ys vs r' rr' =>
   cases rr' with
   | cons _ _ => exact q1.elim
   | nil =>
    replace q1 : znR x y H1 R := q1
    unfold znR at q1
    split at q1
    ·rename_i c d
     obtain ⟨as, bs, hc, hd, q⟩ := q1
     cases r
     cases r'
     obtain ⟨_, its1, n1, rv1, eo1⟩ := I1.hok c _ hc
     obtain ⟨_, its2, n2, rv2, eo2⟩ := I1.hok d _ hd
     refine call_zip_2 ⟨_, eo1, rfl, n1, rfl⟩ ⟨_, eo2, rfl, n2, rfl⟩ fun h' hz hTI hTO hi1 hi2 hsz hk => ?_
     refine wpAny_pyIter_zip hz ?_
     refine ⟨_, [s1.heap.objs.size + 4, s1.heap.objs.size + 2, s1.heap.objs.size + 3, s1.heap.objs.size, s1.heap.objs.size + 1], _, _, H1, rfl, I1.kept (t' := s1.toks) fun b o e => hk b o e, turn_zip c d _ _ _ _ _ (zipApart_new (Heap.lt_size eo1) (Heap.lt_size eo2)), ⟨hz, hTI, ⟨_, _, hTO⟩, hi1, hi2⟩, fun e he => ?_, q⟩
     have ee : e = s1.heap.objs.size + 4 ∨ e = s1.heap.objs.size + 2 ∨ e = s1.heap.objs.size + 3 ∨ e = s1.heap.objs.size ∨ e = s1.heap.objs.size + 1 := by simpa using he
     have le : s1.heap.objs.size ≤ e := by
      rcases ee with rfl | rfl | rfl | rfl | rfl
      ·exact Nat.le_add_right _ _
      ·exact Nat.le_add_right _ _
      ·exact Nat.le_add_right _ _
      ·exact Nat.le_refl _
      ·exact Nat.le_add_right _ _
     exact I1.fpOk le (I1.hok.fresh le)
    ·exact q1.elim
end
section
variable {nv : Nat} {ix : List Nat} {g : TG} {tt : TT} {te : TE} {tb : TS} {D : Ends} {σ : St} {H : Hp} {ta : TA} {Q : VK}
theorem tFor_zip : tFor (jZip ta) g tb D σ H = ta σ H fun vs H1 => match vs with
 | [x, y] => znR x y H1 fun J H2 => forR J g tb D σ H2
 | _ => False := by
 unfold tFor jZip
 rfl
theorem tComp_enum : tComp nv ix (jEnum ta) g tt te σ H Q = ta σ H fun vs H1 => match vs with
 | [x] => enR x H1 fun J H2 => compR J g tt te (compSt nv ix σ) H2 fun ys H' => ys.length ≤ sizeLine ∧ ∀ l, H' l = none → Q (.ref l) (upd H' l (.lst ys))
 | _ => False := by
 unfold tComp jEnum
 rfl
theorem tComp_zip : tComp nv ix (jZip ta) g tt te σ H Q = ta σ H fun vs H1 => match vs with
 | [x, y] => znR x y H1 fun J H2 => compR J g tt te (compSt nv ix σ) H2 fun ys H' => ys.length ≤ sizeLine ∧ ∀ l, H' l = none → Q (.ref l) (upd H' l (.lst ys))
 | _ => False := by
 unfold tComp jZip
 rfl
theorem compSt_two {ix : List Nat} {σ : St} : compSt 2 ix σ = none :: none :: ix.map fun i => (σ[i]?).join := rfl
theorem compSt_three {ix : List Nat} {σ : St} : compSt 3 ix σ = none :: none :: none :: ix.map fun i => (σ[i]?).join := rfl
end
section
variable {K : PySem.W.Frag} {g : TG} {tt : TT} {te : TE} {H : Hp} {σ : St} {Q : List V → Hp → Prop}
theorem co_any {J : It} {n : Nat} (Pv : Nat → List V → St → Hp → Prop) (h0 : Pv 0 [] σ H) (hz : n ≤ sizeLine) (hl : ∀ i ys σ H, Pv i ys σ H → ys.length ≤ i) (go : ∀ i ys σ H, i < n → Pv i ys σ H → J.go i H) (stop : ∀ ys σ H, Pv n ys σ H → J.stop n H)
  (step : ∀ i ys σ H x H'', i < n → Pv i ys σ H → J.yld i H x H'' → g x σ H'' fun σ2 H2 => tt σ2 H2 fun b H3 => if b = true then te σ2 H3 fun y H4 => Pv (i + 1) (ys ++ [y]) σ2 H4 else Pv (i + 1) ys σ2 H3) (q : ∀ ys σ H, Pv n ys σ H → Q ys H) : compR J g tt te σ H Q := by
 refine ⟨fun i m ys σ' H' => i ≤ n ∧ m = n - i ∧ Pv i ys σ' H', ⟨n, Nat.zero_le _, rfl, h0⟩, ?_⟩
 rintro i m ys σ' H' ⟨hi, rfl, hp⟩
 by_cases e : i = n
 ·subst e
  exact .inl ⟨stop _ _ _ hp, q _ _ _ hp⟩
 ·have hlt : i < n := by omega
  refine .inr ⟨go i _ _ _ hlt hp, by have := hl _ _ _ _ hp; omega, fun ys' σ'' H'' => Pv (i + 1) ys' σ'' H'', fun ys' σ'' H'' p' => ⟨n - (i + 1), by omega, by omega, rfl, p'⟩, fun x H'' y => step i ys σ' H' x H'' hlt hp y⟩
theorem co_listH {a : Addr} {xs : List V} (hS : SqL K H a xs) (hz : xs.length ≤ sizeLine) (Pv : Nat → List V → St → Hp → Prop) (h0 : Pv 0 [] σ H) (hl : ∀ i ys σ H, Pv i ys σ H → ys.length ≤ i) (hk : ∀ i ys σ H, Pv i ys σ H → SqL K H a xs)
  (step : ∀ (i : Nat) x ys σ H, xs[i]? = some x → Pv i ys σ H → g x σ H fun σ2 H2 => tt σ2 H2 fun b H3 => if b = true then te σ2 H3 fun y H4 => Pv (i + 1) (ys ++ [y]) σ2 H4 else Pv (i + 1) ys σ2 H3) (q : ∀ ys σ H, Pv xs.length ys σ H → Q ys H) : seqR K (.ref a) H fun J H2 => compR J g tt te σ H2 Q := by
 refine .inl ⟨xs, hS, co_any (n := xs.length) Pv h0 hz hl (fun i ys σ H hi hp => ⟨xs, xs[i], hk _ _ _ _ hp, by simp [hi]⟩) (fun ys σ H hp => ⟨xs, hk _ _ _ _ hp, Nat.le_refl _⟩) (fun i ys σ H x H'' hi hp y => ?_) q⟩
 obtain ⟨e, hx⟩ := y
 subst e
 exact step i x ys σ _ (hx xs (hk _ _ _ _ hp)) hp
theorem co_enumH {a : Addr} {xs : List V} (hS : H a = some (.lst xs)) (hz : xs.length ≤ sizeLine) (Pv : Nat → List V → St → Hp → Prop) (h0 : Pv 0 [] σ H) (hl : ∀ i ys σ H, Pv i ys σ H → ys.length ≤ i) (hk : ∀ i ys σ H, Pv i ys σ H → H a = some (.lst xs))
  (step : ∀ (i : Nat) x p ys σ H, xs[i]? = some x → Pv i ys σ H → H p = none → g (.ref p) σ (upd H p (.tup [.int i, x])) fun σ2 H2 => tt σ2 H2 fun b H3 => if b = true then te σ2 H3 fun y H4 => Pv (i + 1) (ys ++ [y]) σ2 H4 else Pv (i + 1) ys σ2 H3) (q : ∀ ys σ H, Pv xs.length ys σ H → Q ys H) : enR (.ref a) H fun J H2 => compR J g tt te σ H2 Q := by
 refine ⟨xs, hS, co_any (n := xs.length) Pv h0 hz hl (fun i ys σ H hi hp => ⟨xs, _, hk _ _ _ _ hp, List.getElem?_eq_getElem hi⟩) (fun ys σ H hp => ⟨xs, hk _ _ _ _ hp, Nat.le_refl _⟩) (fun i ys σ H x H'' hi hp y => ?_) q⟩
 obtain ⟨p, x', hx, hq, rfl, rfl⟩ := y
 exact step i x' p ys σ H (hx xs (hk _ _ _ _ hp)) hp hq
theorem co_zipH {a b : Addr} {xs zs : List V} (hS : H a = some (.lst xs)) (hS' : H b = some (.lst zs)) (hn : zs.length = xs.length) (hz : xs.length ≤ sizeLine) (Pv : Nat → List V → St → Hp → Prop) (h0 : Pv 0 [] σ H) (hl : ∀ i ys σ H, Pv i ys σ H → ys.length ≤ i) (hk : ∀ i ys σ H, Pv i ys σ H → H a = some (.lst xs) ∧ H b = some (.lst zs))
  (step : ∀ (i : Nat) x z p ys σ H, xs[i]? = some x → zs[i]? = some z → Pv i ys σ H → H p = none → g (.ref p) σ (upd H p (.tup [x, z])) fun σ2 H2 => tt σ2 H2 fun b H3 => if b = true then te σ2 H3 fun y H4 => Pv (i + 1) (ys ++ [y]) σ2 H4 else Pv (i + 1) ys σ2 H3) (q : ∀ ys σ H, Pv xs.length ys σ H → Q ys H) : znR (.ref a) (.ref b) H fun J H2 => compR J g tt te σ H2 Q := by
 refine ⟨xs, zs, hS, hS', co_any (n := xs.length) Pv h0 hz hl (fun i ys σ H hi hp => ?_) (fun ys σ H hp => ⟨xs, zs, (hk _ _ _ _ hp).1, (hk _ _ _ _ hp).2, .inl (Nat.le_refl _)⟩) (fun i ys σ H x H'' hi hp y => ?_) q⟩
 ·exact ⟨xs, zs, _, _, (hk _ _ _ _ hp).1, (hk _ _ _ _ hp).2, List.getElem?_eq_getElem hi, List.getElem?_eq_getElem (by omega)⟩
 ·obtain ⟨p, x', z', hx, hz', hq, rfl, rfl⟩ := y
  exact step i x' z' p ys σ H (hx xs (hk _ _ _ _ hp).1) (hz' zs (hk _ _ _ _ hp).2) hp hq
end
end L2
set_option maxRecDepth 100000
namespace L2
open PySem PySem.Spec PyProof.Rows
noncomputable def ExO (h : Heap) (e : Addr) (cls : Value) (dx tb : Option Addr) : Prop :=
 ∃ oe vs, h.get? e = some oe ∧ oe.cls = cls ∧ oe.dict = dx ∧ oe.data = .fields vs ∧ 1 < vs.size ∧ (match tb with
  | none => vs[1]? = some .none
  | some T => vs[1]? = some (.ref T) ∧ T ≠ e ∧ ∃ oT ts, h.get? T = some oT ∧ oT.data = .fields ts ∧ ts[3]? = some .none)
structure Lft (S : List Addr) (e : Addr) (tb : Option Addr) (h h' : Heap) : Prop where
 keep : ∀ b o, b ∉ S → b ≠ e → (∀ T, tb = some T → b ≠ T) → h.get? b = some o → h'.get? b = some o
 slot : ∀ b o, b ∈ S → h.get? b = some o → ∃ sl, h'.get? b = some { o with slots := sl }
 there : ∀ b o, h.get? b = some o → ∃ o', h'.get? b = some o'
section
variable {M : Model} {A : Around} {E : Value → Shared → Prop} {s : Shared}
theorem dict_mapFields (f : Array Value → Array Value) (o : Obj) : (Obj.mapFields f o).dict = o.dict := by
 unfold Obj.mapFields
 split <;> rfl
noncomputable abbrev rowO (top : Value) (L : Addr) (ps : List Value) : Obj := { cls := .type "traceback", dict := none, data := .fields ([top, .ref L, .none, rawInt L, .none] ++ (if ps.isEmpty then List.replicate 6 Value.none else ps)).toArray }
theorem entry_x {base : Heap} {env : Env} {outer : List Env} {L e : Addr} {oe : Obj} {vs : Array Value} {top : Value} {had : Bool} {Q : Unit → Shared → Prop}
  (hfr : A.frames = some (env :: outer)) (hl : s.heap.FunFrames base (env :: outer)) (hf : env.frame = some L)
  (he : s.heap.get? e = some oe) (hd : oe.data = .fields vs) (hsz : 1 < vs.size)
  (h : ∀ h', ExO h' e oe.cls oe.dict (some s.heap.objs.size) → Lft ((env :: outer).filterMap (·.frame)) e none s.heap h' → Q () { s with heap := h' }) :
  wpAny M A (do let a ← frameOf env; let pl ← entryPlaceOf L had; let b ← EntryCells.newEntry top a .none (rawInt L) .none pl; setField (.ref e) 1 b) (fun _ s' => wpAny M A (setFlight (.ref e) none) Q E s') E s := by
 have out : e ∉ (env :: outer).filterMap (·.frame) := fun hm => by
  obtain ⟨_, o', ho', no⟩ := hl.mem hm
  cases he.symm.trans ho'
  exact no vs hd
 refine wpAny_bind (wpAny_frameOf_fun hfr hl hf fun k ks => wpAny_bind (wpAny_entryPlaceOf fun ps hps => ?_))
 unfold EntryCells.newEntry newFields
 refine wpAny_bind (wpAny_newObj_type ?_ (hps.sizeOk5 _ _ _ _ _))
 have ke : k.get? e = some oe := (ks.2.1 e out).trans he
 have far : k.objs.size ≠ e := Nat.ne_of_gt (Heap.lt_size ke)
 have esz : k.objs.size = s.heap.objs.size := ks.1
 have de := Obj.data_mapFields hd (·.setIfInBounds 1 (Value.ref k.objs.size))
 have e1 := Heap.get?_push_of_some (h := k) (rowO top L ps) ke
 have e2 := Heap.get?_update_self (Obj.mapFields (·.setIfInBounds 1 (Value.ref k.objs.size))) e1 (Obj.isFreed_of_fields de)
 have r2 := (Heap.get?_update_other (k.push (rowO top L ps)) (Obj.mapFields (·.setIfInBounds 1 (Value.ref k.objs.size))) (Ne.symm far)).trans (Heap.get?_push_size k rfl)
 refine wpAny_setField e1 hd hsz ?_
 unfold setFlight
 refine wpAny_bind (wpAny_field e2 de (x := .ref k.objs.size) (by simp [hsz]) ?_)
 rw [if_pos (by simp)]
 have r3 := Heap.get?_update_self (Obj.mapFields (·.setIfInBounds 3 ((none : Option Addr).elim Value.none fun f => rawInt f))) r2 (Obj.isFreed_of_fields (Obj.data_mapFields rfl _))
 refine wpAny_setField r2 rfl (by simp only [List.size_toArray, List.length_append, List.length_cons, List.length_nil] <;> omega) (h _ ?_ ?_)
 ·rw [← esz]
  refine ⟨_, _, ?_, Obj.cls_mapFields _ _, dict_mapFields _ _, de, by simp [hsz], by simp [hsz], far, _, _, r3, Obj.data_mapFields rfl _, ?_⟩
  ·rw [Heap.get?_update_other _ _ far]; exact e2
  ·first | (simp; done) | (rcases hps with rfl | ⟨_, _, _, _, _, _, _, rfl⟩ <;> simp)
 ·have keep : ∀ b o, b ≠ e → k.get? b = some o → (((k.push (rowO top L ps)).update e (Obj.mapFields (·.setIfInBounds 1 (Value.ref k.objs.size)))).update k.objs.size (Obj.mapFields (·.setIfInBounds 3 ((none : Option Addr).elim Value.none fun f => rawInt f)))).get? b = some o := fun b o ne hb => by
   rw [Heap.get?_update_other _ _ (Nat.ne_of_gt (Heap.lt_size hb)), Heap.get?_update_other _ _ (Ne.symm ne)]
   exact Heap.get?_push_of_some _ hb
  refine ⟨fun b o hS ne _ hb => keep b o ne ((ks.2.1 b hS).trans hb), fun b o hS hb => ?_, fun b o hb => ?_⟩
  ·obtain ⟨sl, q⟩ := ks.2.2 b o hb
   exact ⟨sl, keep b _ (fun z => out (z ▸ hS)) q⟩
  ·by_cases z : b = e
   ·subst z
    rw [Heap.get?_update_other _ _ far]
    exact ⟨_, e2⟩
   ·obtain ⟨sl, q⟩ := ks.2.2 b o hb
    exact ⟨_, keep b _ z q⟩
theorem note_x {base : Heap} {env : Env} {outer : List Env} {L e : Addr} {cls : Value} {dx tb : Option Addr} {Q : Unit → Shared → Prop}
  (hfr : A.frames = some (env :: outer)) (hl : s.heap.FunFrames base (env :: outer)) (hf : env.frame = some L) (hx : ExO s.heap e cls dx tb)
  (h : ∀ h', ExO h' e cls dx (some s.heap.objs.size) → Lft ((env :: outer).filterMap (·.frame)) e tb s.heap h' → Q () { s with heap := h' }) : wpAny M A (noteFrame (.ref e) env) (fun _ s' => wpAny M A (setFlight (.ref e) none) Q E s') E s := by
 obtain ⟨oe, vs, he, rfl, rfl, hd, hsz, ht⟩ := hx
 unfold noteFrame
 simp only [hf]
 cases tb with
 | none =>
  refine wpAny_bind (wpAny_field he hd ht ?_)
  rw [if_neg (by decide)]
  exact entry_x hfr hl hf he hd hsz h
 | some T =>
  obtain ⟨h1, ne, oT, ts, hT, dT, h3⟩ := ht
  have apart : ∀ b o, s.heap.get? b = some o → (∀ ws, o.data ≠ .fields ws) → b ≠ T := fun b o hb no z => by
   subst z
   cases hb.symm.trans hT
   exact no ts dT
  have out : T ∉ (env :: outer).filterMap (·.frame) := fun hm => by
   obtain ⟨_, o', ho', no⟩ := hl.mem hm
   exact apart T o' ho' no rfl
  refine wpAny_bind (wpAny_field he hd h1 ?_)
  rw [if_pos (by simp)]
  refine wpAny_bind (wpAny_field hT dT h3 ?_)
  rw [if_neg (by simp [rawInt])]
  refine wpAny_bind (wpAny_setField hT dT (Array.getElem?_eq_some_iff.mp h3).1 ?_)
  have oth : ∀ b, b ≠ T → (s.heap.update T (Obj.mapFields (·.setIfInBounds 3 Value.none))).get? b = s.heap.get? b := fun b z => Heap.get?_update_other _ _ (Ne.symm z)
  have self := Heap.get?_update_self (Obj.mapFields (·.setIfInBounds 3 Value.none)) hT (Obj.isFreed_of_fields (Obj.data_mapFields dT _))
  have fr := hl.of_keeps (h' := s.heap.update T (Obj.mapFields (·.setIfInBounds 3 Value.none))) fun b o hb no => ⟨o, (oth b (apart b o hb no)).trans hb, rfl⟩
  refine entry_x (oe := oe) (vs := vs) hfr fr hf ((oth e (Ne.symm ne)).trans he) hd hsz fun h' x k => ?_
  have sz : (s.heap.update T (Obj.mapFields (·.setIfInBounds 3 Value.none))).objs.size = s.heap.objs.size := Heap.size_update ..
  change ExO h' e oe.cls oe.dict (some (s.heap.update T (Obj.mapFields (·.setIfInBounds 3 Value.none))).objs.size) at x
  rw [sz] at x
  refine h h' x ⟨fun b o hS z zT hb => k.keep b o hS z (fun _ q => by cases q) ((oth b (zT T rfl)).trans hb), fun b o hS hb => k.slot b o hS ((oth b (fun q => out (q ▸ hS))).trans hb), fun b o hb => ?_⟩
  by_cases q : b = T
  ·exact q ▸ k.there _ _ self
  ·exact k.there b o ((oth b q).trans hb)
theorem leaving_x {base : Heap} {env : Env} {outer : List Env} {L e : Addr} {cls : Value} {dx tb : Option Addr} {Q : Unit → Shared → Prop}
  (hfr : A.frames = some (env :: outer)) (hl : s.heap.FunFrames base (env :: outer)) (hf : env.frame = some L) (hx : ExO s.heap e cls dx tb)
  (h : ∀ h', ExO h' e cls dx (some s.heap.objs.size) → Lft ((env :: outer).filterMap (·.frame)) e tb s.heap h' → Q () { s with heap := h' }) : wpAny M A (leaving env (.ref e)) Q E s := wpAny_bind (note_x hfr hl hf hx h)
end
noncomputable def CX1 (P : Program) (w : World) : CXT := fun outer H s E e s' => ∃ ea cls dx T H', e = .ref ea ∧ s'.os = s.os ∧ AllBare s'.gens ∧ Un (frs outer) [] H H' s.heap s'.heap ∧ HOk P w H' s'.heap ∧ ExO s'.heap ea cls dx (some T) ∧
 (s.heap.get? ea = none ∧ s.heap.get? T = none ∧ H' ea = none ∧ H' T = none) ∧ E cls dx H'
noncomputable instance {P : Program} {w : World} : Quiet (CX1 P w) := ⟨fun X pins σ H s e s' I h => by
 obtain ⟨_, _, _, _, _, _, _, _, _, _, _, _, h⟩ := h
 exact h.elim⟩
structure Fly (X : Cx) (pins : List (Addr × Obj)) (σ : St) (H : Hp) (s : Shared) (ea : Addr) (cls : Value) (dx tb : Option Addr) : Prop where
 inv : Inv X pins σ H s
 ex : ExO s.heap ea cls dx tb
 n0 : X.s₀.heap.get? ea = none
 nH : H ea = none
 tbs : ∀ T, tb = some T → X.s₀.heap.get? T = none ∧ H T = none
 apart : ∀ p ∈ X.pn ++ pins, p.1 ≠ ea ∧ ∀ T, tb = some T → p.1 ≠ T
noncomputable def Rz (X : Cx) (E : XK) : Prop := ∀ pins σ H s ea cls dx tb, Fly X pins σ H s ea cls dx tb → E cls dx H → X.xe (.ref ea) s
section
variable {P : Program} {w : World} {K : PySem.W.Frag} {mg : Str → Option Value} {base : Heap} {N : List Str} {qual : Str} {scope : Scope} {f : Addr} {cd : Value} {A : Around} {outer : List Env} {s : Shared} {H : Hp} {E : XK}
theorem rz_fn : Rz (cxOf (CX1 P w) P w K mg base N qual scope f cd A outer s H E) E := by
  intro pins σ H1 s1 ea cls dx tb F hE
  have I := F.inv
  have hst : (cxOf (CX1 P w) P w K mg base N qual scope f cd A outer s H E).stack = envOfC qual scope s.heap.objs.size f cd :: outer := rfl
  show wpAny (model P w) (A.deeper (envOfC qual scope s.heap.objs.size f cd)) (leaving (envOfC qual scope s.heap.objs.size f cd) (.ref ea)) _ _ s1
  refine leaving_x (base := base) (L := s.heap.objs.size) (by have := I.ok.frames; exact this) (by have := I.stack; exact this) rfl F.ex fun h' hx hk => ?_
  have hfree : ∀ b ∈ frs (envOfC qual scope s.heap.objs.size f cd :: outer), H1 b = none := I.stkFree
  have hin : ∀ b, b ∈ (envOfC qual scope s.heap.objs.size f cd :: outer).filterMap (·.frame) → b = s.heap.objs.size ∨ b ∈ frs outer := fun b hb => by
    rw [List.filterMap_cons] at hb
    exact (List.mem_cons.mp hb).elim .inl .inr
  have hne : ∀ b o, s.heap.get? b = some o → b ≠ ea ∧ (∀ T, tb = some T → b ≠ T) ∧ b ≠ s.heap.objs.size := fun b o e =>
    ⟨fun q => (by have h1 : s.heap.get? ea = none := F.n0; rw [q, h1] at e; cases e),
     fun T hT q => (by have h1 : s.heap.get? T = none := (F.tbs T hT).1; rw [q, h1] at e; cases e),
     Nat.ne_of_lt (Heap.lt_size e)⟩
  have B : Un (frs outer) [] H H1 s.heap s1.heap := I.base
  refine ⟨ea, cls, dx, _, H1, rfl, I.os, I.bare, ⟨fun b o q n hb hx => ?_, fun b o q n hb hx => ?_, B.free, fun b o q hx => ?_, B.tups, B.frzs, B.tbls⟩, fun b o q => ?_, hx, ⟨F.n0, ?_, F.nH, I.hok.fresh (Nat.le_refl _)⟩, hE⟩
  · obtain ⟨n1, n2, n3⟩ := hne b o q
    exact hk.keep b o (fun hm => (hin b hm).elim n3 hb) n1 n2 (B.keep b o q n hb hx)
  · obtain ⟨sl, e⟩ := B.slot b o q n hb hx
    obtain ⟨sl', e'⟩ := hk.slot b _ (by rw [List.filterMap_cons]; exact List.mem_cons_of_mem _ hb) e
    exact ⟨sl', e'⟩
  · obtain ⟨o', e⟩ := B.there b o q hx
    exact hk.there b o' e
  · have some_ne : ∀ c u, H1 c = some u → c ∉ (envOfC qual scope s.heap.objs.size f cd :: outer).filterMap (·.frame) ∧ c ≠ ea ∧ ∀ T, tb = some T → c ≠ T := fun c u e =>
      ⟨fun hm => (by rw [hfree c hm] at e; cases e), fun z => (by rw [z, F.nH] at e; cases e), fun T hT z => (by rw [z, (F.tbs T hT).2] at e; cases e)⟩
    refine (I.hok b o q).stay (fun c u hc e => ?_) (fun c e => e) (fun c xs e => e)
    rcases hc with z | z
    · obtain ⟨m1, m2, m3⟩ := some_ne b o q
      subst z
      exact hk.keep _ u m1 m2 m3 e
    · obtain ⟨m1, m2, m3⟩ := some_ne c _ z
      exact hk.keep c u m1 m2 m3 e
  · exact Heap.get?_none_of_le I.sz
end
section
variable {X : Cx} {E : XK}
end
theorem ObjOk.there {P : Program} {w : World} {H : Hp} {h : Heap} {a : Addr} {o : HO} (x : ObjOk P w H h a o) : ∃ u, h.get? a = some u := by
 cases o with
 | lst xs => obtain ⟨_, _, _, _, e⟩ := x; exact ⟨_, e⟩
 | tup xs => obtain ⟨_, _, _, ⟨o, e, _⟩⟩ := x; exact ⟨_, e⟩
 | dK kvs => obtain ⟨_, _, _, _, o, _, _, e, _⟩ := x; exact ⟨_, e⟩
 | dT kvs => obtain ⟨_, _, _, _, o, _, _, e, _⟩ := x; exact ⟨_, e⟩
 | set S n => obtain ⟨o, _, _, _, e, _⟩ := x; exact ⟨_, e⟩
 | ins C dx fs => obtain ⟨_, _, _, e, _⟩ := x; exact ⟨_, e⟩
 | own y => obtain ⟨_, e⟩ := x; exact ⟨_, e⟩
 | xd fs => obtain ⟨_, ⟨_, _, _, e, _⟩, _⟩ := x; exact ⟨_, e⟩
 | rng lo hi => obtain ⟨_, _, _, e⟩ := x; exact ⟨_, e⟩
 | frz ob u => obtain ⟨e, _⟩ := x; exact ⟨_, e⟩
 | tbl ps => exact ⟨_, (show h.get? a = some _ from x)⟩
 | met f y => exact ⟨_, (show h.get? a = some _ from x)⟩
 | ext φ => obtain ⟨_, e, _⟩ := x; exact e
noncomputable abbrev vErr : List Value := [.type "ValueError", .type "Exception", .type "BaseException", .type "object"]
structure XcAt (K : PySem.W.Frag) (mg : Str → Option Value) (x : Str) (C R : Addr) (ini : Option Value) : Prop where
 mgC : mg x = some (.ref C)
 cls : ∃ N nm q bs sn sub ab col dd k0 k1 k2 k3 k5, K.lookup C = some (excClassObj nm q C N bs (.ref R :: vErr) true sn sub ab col dd k0 k1 k2 k3 k5 "ValueError.__new__") ∧ PySem.W.nsOkIn K N = true ∧ PySem.W.nsIn K N "__init__" = some ini ∧ PySem.W.nsIn K N "__setattr__" = some none
 road : ∃ c0 dd cd sl, K.lookup R = some { cls := c0, dict := dd, data := .cls cd, slots := sl } ∧ PySem.W.nsOkIn K cd.ns = true ∧ PySem.W.nsIn K cd.ns "__init__" = some none ∧ PySem.W.nsIn K cd.ns "__setattr__" = some none
theorem xcat_mk {K : PySem.W.Frag} {h : Heap} {mg : Str → Option Value} {x : Str} {C R N : Addr} {ini : Option Value} {nm q : Str} {bs : List Value} {sn : List Str} {sub : List Value} {ab : Bool} {col : Option Bool} {dd ddR : Option Addr} {k0 k1 k2 k3 k5 : Option Value} {c0 : Value} {cd : ClassData} {sl : Array (Option Value)} (X : K.In h) (G : h.Ns mainGlobals mg)
  (a : PySem.W.nsIn K mainGlobals x = some (some (.ref C))) (l : K.lookup C = some (excClassObj nm q C N bs (.ref R :: vErr) true sn sub ab col dd k0 k1 k2 k3 k5 "ValueError.__new__")) (o : PySem.W.nsOkIn K N = true) (i : PySem.W.nsIn K N "__init__" = some ini) (t : PySem.W.nsIn K N "__setattr__" = some none)
  (l' : K.lookup R = some { cls := c0, dict := ddR, data := .cls cd, slots := sl }) (o' : PySem.W.nsOkIn K cd.ns = true) (i' : PySem.W.nsIn K cd.ns "__init__" = some none) (t' : PySem.W.nsIn K cd.ns "__setattr__" = some none) : XcAt K mg x C R ini :=
 ⟨PySem.W.mg_of X G a, ⟨N, nm, q, bs, sn, sub, ab, col, dd, k0, k1, k2, k3, k5, l, o, i, t⟩, ⟨c0, ddR, cd, sl, l', o', i', t'⟩⟩
theorem XcAt.tail {K : PySem.W.Frag} {mg : Str → Option Value} {x : Str} {C R : Addr} {ini : Option Value} (c : XcAt K mg x C R ini) {h : Heap} (X : K.In h) : OwnTail h vErr (.ref R :: vErr) := by
 obtain ⟨c0, dd, cd, sl, l, o, i, _⟩ := c.road
 exact .own (X _ _ l) (.of_isNs (PySem.W.isNs_of_in X o)) (PySem.W.nsMap_none_of_in X o i) .base
section
variable {X : Cx} {E : XK}
theorem fly_new {pins : List (Addr × Obj)} {σ : St} {H : Hp} {s : Shared} {h' : Heap} {e : Addr} {cls : Value} {args : List Value} (hex : X.ex = []) (I : Inv X pins σ H s) (hm : Heap.MadeExcOf s.heap h' e cls args) : Fly X pins σ H { s with heap := h' } e cls none none := by
 have hn := hm.new
 obtain ⟨t, he, _, _⟩ := hm.there
 refine ⟨I.kept (t' := s.toks) hm.keeps, ⟨_, _, he, rfl, rfl, rfl, by show 1 < 6; decide, rfl⟩, ?_, ?_, (fun T q => by cases q), fun p hp => ⟨fun z => ?_, fun T q => by cases q⟩⟩
 ·cases q : X.s₀.heap.get? e with
  | none => rfl
  | some o =>
   obtain ⟨o', e'⟩ := I.base.there e o q (by rw [hex]; simp)
   rw [hn] at e'; cases e'
 ·cases q : H e with
  | none => rfl
  | some u =>
   obtain ⟨o', e'⟩ := (I.hok e u q).there
   rw [hn] at e'; cases e'
 ·have q := (I.pin p hp).1
  rw [z, hn] at q; cases q
noncomputable def tRaise0 (E : XK) (C : Addr) : TS := fun _ _ H => E (.ref C) none H
theorem ps_raise0 {x : Str} {C R : Addr} {np cpos pos : Pos} (c : XcAt X.K X.mg x C R none) (hz : Rz X E) (hc : X.calm = true) (hex : X.ex = []) (hg : Gl X x) (hdb : (x == ("__debug__" : Str)) = false := by decide) :
  PS X (.Raise (some (.Call (.Name x np) [] [] cpos)) none pos) (tRaise0 E C) := by
 intro pins s σ H D I h
 obtain ⟨N, nm, q, bs, sn, sub, ab, col, dd, k0, k1, k2, k3, k5, l, o, i, _⟩ := c.cls
 have T := c.tail I.kIn
 refine wpAny_Raise_call_subT PySem.F.excBase_ValueError (T.hasType (by decide +kernel)) (I.ok.hd hc) rfl (PySem.W.nsMap_none_of_in I.kIn o i) (ld_glob I hg c.mgC ⟨rfl, evalArgs_nil3 ⟨rfl, Nat.zero_le _, I.kIn _ _ l, .of_isNs (PySem.W.isNs_of_in I.kIn o), T, fun h' e hx => ?_⟩⟩ hdb)
 exact hz _ _ _ _ _ _ _ _ (fly_new hex I hx) h
end
end L2
set_option maxRecDepth 100000
set_option maxHeartbeats 1000000
namespace L2
open PySem PySem.Spec PyProof.Rows
section
variable {prog : Program} {w : World} {A : Around} {s : Shared} {K : PySem.W.Frag} {x C R : Addr} {cd : ClassData} {name : Str} {v : Value}
theorem set_x {E : Value → Shared → Prop} {vs : Array Value} {Q : Unit → Shared → Prop} (X : K.In s.heap) (hx : s.heap.get? x = some ⟨.ref C, none, .fields vs, #[]⟩) (hc : PySem.W.clsIn K C = some cd) (hm : cd.mro = .ref C :: .ref R :: vErr) (hd : cd.hasDict = true)
  (hs : PySem.W.findIn K (.ref C) "__setattr__" = some (some (.builtin "object.__setattr__"))) (ha : PySem.W.findIn K (.ref C) name = some none)
  (h : ∀ h' t', h'.get? x = some ⟨.ref C, some s.heap.objs.size, .fields vs, #[]⟩ → h'.Ns1 s.heap.objs.size (fun y => if y = name then some v else none) → (∀ b o, b ≠ x → s.heap.get? b = some o → h'.get? b = some o) → Q () { s with heap := h', toks := t' }) :
  wpAny (model prog w) A (setAttr (.ref x) name v) Q E s := by
 have I : PySem.W.InstAt s.heap x ⟨.ref C, none, .fields vs, #[]⟩ C none := ⟨hx, rfl, rfl, True.intro⟩
 have F := PySem.F.store_object
 have lc : PySem.W.Looks (model prog w) s.heap (classData C) cd := PySem.W.looks_clsIn X hc
 have sub : PySem.W.Looks (model prog w) s.heap (isInstance (.ref x) (.type "object")) true := I.type.andThen (PySem.W.looks_mroIn X (by unfold PySem.W.mroIn; rw [hc, Option.bind_some, hm]; rfl))
 have mro : PySem.W.Looks (model prog w) s.heap (mroOf (.ref C)) cd.mro := lc.andThen .now
 refine PySem.W.set_plain X I hs ?_
 refine codeAny_call_builtin F.slot.plain F.entry ?_
 refine @PySem.W.check_slot (model prog w) _ _ { s with toks := s.toks + 1 } "object.__setattr__" "object" "__setattr__" (.ref x) [.str name s.toks, v] [] _ F.kind F.split sub (F.args (.ref x) (.str name s.toks) v) ?_
 rw [PySem.W.osa_eq, refuse_eq]
 refine wpAny_bind (wpAny_bind (I.type.here (s := { s with toks := s.toks + 1 }) (wpAny_bind (mro.here (s := { s with toks := s.toks + 1 }) ?_))))
 rw [hm, refuseLoop_ref, refuseLoop_ref, PySem.F.store_ValueError.passes]
 refine wpAny_pure (wpAny_bind (I.type.here (s := { s with toks := s.toks + 1 }) (wpAny_bind ((PySem.W.looks_findIn X ha).here (s := { s with toks := s.toks + 1 }) (wpAny_bind (wpAny_pure ?_))))))
 refine wpAny_bind (wpAny_pure (wpAny_bind (wpAny_bind (wpAny_loadPart (s := { s with toks := s.toks + 1 }) hx (wpAny_bind (lc.here (s := { s with toks := s.toks + 1 }) ?_))))))
 rw [hd, if_neg (by decide)]
 have sx : x ≠ s.heap.objs.size := Nat.ne_of_lt (Heap.lt_size hx)
 have h1 : (s.heap.push { cls := .type "dict", data := .dict #[] }).get? x = some ⟨.ref C, none, .fields vs, #[]⟩ := Heap.get?_push_of_some _ hx
 have h2 := Heap.get?_update_self (fun o : Obj => { cls := o.cls, dict := some s.heap.objs.size, data := o.data, slots := o.slots }) h1 rfl
 have h3 : ((s.heap.push { cls := .type "dict", data := .dict #[] }).update x fun o => { cls := o.cls, dict := some s.heap.objs.size, data := o.data, slots := o.slots }).get? s.heap.objs.size = some { cls := .type "dict", data := .dict #[] } :=
  (Heap.get?_update_other _ _ sx).trans (Heap.get?_push_size _ rfl)
 have hn : ((s.heap.push { cls := .type "dict", data := .dict #[] }).update x fun o => { cls := o.cls, dict := some s.heap.objs.size, data := o.data, slots := o.slots }).Ns s.heap.objs.size (fun _ => none) :=
  ⟨_, #[], _, h3, rfl, fun e he => absurd he (by simp), fun _ => rfl⟩
 show wpAny _ _ (alloc { cls := .type "dict", data := .dict #[] } >>= fun d => update x (fun o => { cls := o.cls, dict := some d, data := o.data, slots := o.slots }) >>= fun _ => dictMade (.ref C) x d) _ _ _
 refine wpAny_bind (wpAny_alloc ?_)
 refine wpAny_bind (wpAny_update (s := { s with heap := s.heap.push { cls := .type "dict", data := .dict #[] }, toks := s.toks + 1 }) h1 ?_)
 refine wpAny_pure ?_
 show wpAny _ _ (Builtin.ObjectAttr.storeInDict s.heap.objs.size (.str name s.toks) name v) _ _ _
 unfold Builtin.ObjectAttr.storeInDict Builtin.ObjectAttr.newKeyGuard
 refine wpAny_bind (wpAny_pure (wpAny_bind (wpAny_nsSet1 (Heap.Ns1.of_empty hn) fun h' n' sb => ?_)))
 obtain ⟨oD, esD, epD, hoD, hdD, hcD⟩ := n'.count (PySem.Within.cons name v PySem.Within.nil)
 refine wpAny_bind (wpAny_lookBehind hoD (by rw [hdD]; exact pastItsLine_dict (Nat.le_trans hcD (by rw [List.length_cons, List.length_nil, sizeLine_eq]; omega))) ?_)
 refine wpAny_pure (h h' _ ((sb.2 x sx).trans h2) ?_ fun b o ne hb => ?_)
 ·obtain ⟨o', es, ep, e1, e2, e3, eu, e4⟩ := n'
  exact ⟨o', es, ep, e1, e2, e3, eu, fun y => by rw [e4 y]⟩
 ·exact (sb.2 b (Nat.ne_of_lt (Heap.lt_size hb))).trans ((Heap.get?_update_other _ _ (Ne.symm ne)).trans (Heap.get?_push_of_some _ hb))
end
section
variable {prog : Program} {w : World} {A : Around} {E : Value → Shared → Prop} {h : Heap} {g : Array GenState} {d : Drawn} {t : Nat} {os : OsState} {K : PySem.W.Frag}
variable {nm q : Str} {C N : Addr} {bs bm : List Value} {hdct : Bool} {sn : List Str} {sub : List Value} {ab : Bool} {col : Option Bool} {dd : Option Addr} {k0 k1 k2 k3 k5 : Option Value}
theorem tcall_x {rest : List Value} {fI : Addr} {Q : Fin → Shared → Prop} (X : K.In h) (T : OwnTail h vErr bm)
  (hC : h.get? C = some (excClassObj nm q C N bs bm hdct sn sub ab col dd k0 k1 k2 k3 k5 "ValueError.__new__")) (hi : PySem.W.findIn K (.ref C) "__init__" = some (some (.ref fI))) (hf : PySem.W.typeIn K (.ref fI) = some (.type "function"))
  (hr : rest.length ≤ sizeLine)
  (hq : ∀ h' e, Heap.MadeExcOf h h' e (.ref C) rest → wpAny (model prog w) A (call (.ref fI) (.ref e :: rest)) (fun r s' => r = .none ∧ Q (.done (.ret (.ref e))) s') E ⟨h', g, d, t, os⟩) :
  wpAny (model prog w) A (Builtin.«type.__call__» ⟨.ref C :: rest, []⟩) Q E ⟨h, g, d, t, os⟩ := by
 have F := PySem.F.excBase_ValueError
 repeat (first | with_reducible refine wpAny_loadPart_at hC ?_ | with_reducible refine wpAny_madeBy_exc hC ?_ | wp_step)
 refine codeAny_call_builtin_code (Code.quiet_builtin _ F.quiet) (wpAny_check_new_subT F T hC ?_)
 refine codeAny_exc_new_subT F T hC ?_ hr
 show wpAny _ _ _ _ _ _
 have up : ∀ b o, h.get? b = some o → ((h.push { cls := .type "tuple", data := .seq rest.toArray }).push { cls := .ref C, data := .fields #[.ref h.objs.size, .none, .none, .none, .bool false, .none] }).get? b = some o := fun b o e => Heap.get?_push_of_some _ (Heap.get?_push_of_some _ e)
 have C2 := up _ _ hC
 have X2 := X.keeps up
 have e2 : ((h.push { cls := .type "tuple", data := .seq rest.toArray }).push { cls := .ref C, data := .fields #[.ref h.objs.size, .none, .none, .none, .bool false, .none] }).get? (h.objs.size + 1) = some { cls := .ref C, data := .fields #[.ref h.objs.size, .none, .none, .none, .bool false, .none] } := by heap_get
 have t2 : ((h.push { cls := .type "tuple", data := .seq rest.toArray }).push { cls := .ref C, data := .fields #[.ref h.objs.size, .none, .none, .none, .bool false, .none] }).get? h.objs.size = some { cls := .type "tuple", data := .seq rest.toArray } := Heap.get?_push_of_some _ (Heap.get?_push_at rfl rfl)
 have made : Heap.MadeExcOf h ((h.push { cls := .type "tuple", data := .seq rest.toArray }).push { cls := .ref C, data := .fields #[.ref h.objs.size, .none, .none, .none, .bool false, .none] }) (h.objs.size + 1) (.ref C) rest :=
  ⟨up, Heap.get?_none_of_le (Nat.le_succ _), h.objs.size, e2, Heap.get?_none_of_le (Nat.le_refl _), t2⟩
 have q2 := hq _ _ made
 have me : (Value.ref C :: bm).contains (.ref C) = true := by simp
 generalize (h.push { cls := .type "tuple", data := .seq rest.toArray }).push { cls := .ref C, data := .fields #[.ref h.objs.size, .none, .none, .none, .bool false, .none] } = h2 at *
 unfold isInstance
 repeat (first | with_reducible refine wpAny_loadPart_at e2 ?_ | (with_reducible refine wpAny_isSubtype_exc C2 ?_; rw [me]) | wp_step)
 show wpAny _ _ (typeLookup (.ref C) _) _ _ _
 refine (PySem.W.looks_findIn X2 hi).here (s := ⟨h2, g, d, t, os⟩) ?_
 refine wpAny_holding (wpAny_bind ((PySem.W.bind_fn X2 _ hf).here (s := ⟨h2, g, d, t, os⟩) (wpAny_bind (wpAny_mono q2 (fun r s' hr => ?_) fun _ _ z => z))))
 obtain ⟨rfl, hQ⟩ := hr
 wp_walk
 exact hQ
theorem call_x {rest : List Value} {fI : Addr} {Q : Value → Shared → Prop} (X : K.In h) (T : OwnTail h vErr bm)
  (hC : h.get? C = some (excClassObj nm q C N bs bm hdct sn sub ab col dd k0 k1 k2 k3 k5 "ValueError.__new__")) (hi : PySem.W.findIn K (.ref C) "__init__" = some (some (.ref fI))) (hf : PySem.W.typeIn K (.ref fI) = some (.type "function"))
  (hr : rest.length ≤ sizeLine)
  (hq : ∀ h' e, Heap.MadeExcOf h h' e (.ref C) rest → wpAny (model prog w) (A.under (.builtin "type.__call__" ⟨.ref C :: rest, []⟩)) (call (.ref fI) (.ref e :: rest)) (fun r s' => r = .none ∧ Q (.ref e) s') E ⟨h', g, d, t, os⟩) :
  wpAny (model prog w) A (call (.ref C) rest) Q E ⟨h, g, d, t, os⟩ := by
 have f1 := tc_lookup
 have f2 := tc_bind (.ref C)
 have hT : (⟨h, g, d, t, os⟩ : Shared).TypeIs (.ref C) "type" := ⟨_, hC, rfl⟩
 refine wpAny_call (codeAny_of_tree ?_)
 show wpAny _ _ (callAny (.ref C) _) _ _ _
 repeat (any_goals (first | assumption | with_reducible refine wpAny_loadPart_at hC ?_ | wp_step))
 refine ⟨rfl, ?_⟩
 refine codeAny_call_builtin_at (Code.quiet_builtin _ (by decide +kernel)) entry_typeCall (wpAny_check_type_call_sub hC (tcall_x X T hC hi hf hr fun h' e hm => ?_))
 exact hq h' e hm
theorem raise_x {s : Shared} {env : Env} {x : Sem Value} {Q : Flow → Shared → Prop} (hbase : bm.contains (.type "BaseException") = true) (hh : A.handled = none)
  (hx : wpAny (model prog w) A x (fun v s₁ => ∃ e dx vs, v = .ref e ∧ s₁.heap.get? C = some (excClassObj nm q C N bs bm hdct sn sub ab col dd k0 k1 k2 k3 k5 "ValueError.__new__") ∧ s₁.heap.get? e = some ⟨.ref C, dx, .fields vs, #[]⟩ ∧ vs[1]? = some .none ∧ E (.ref e) s₁) E s) :
  wpAny (model prog w) A (raiseStmt env (some x) none) Q E s := by
 have me : (Value.ref C :: bm).contains (.type "BaseException") = true := by rw [List.contains_cons, hbase, Bool.or_true]
 unfold raiseStmt
 refine wpAny_bind (wpAny_mono hx (fun v s₁ h₁ => ?_) fun _ _ x => x)
 obtain ⟨e, dx, vs, rfl, hC, he, h1, hE⟩ := h₁
 obtain ⟨hp, g, d, tk, os⟩ := s₁
 repeat (first | with_reducible refine wpAny_loadPart_at he ?_ | with_reducible refine wpAny_loadPart_at hC ?_ | (with_reducible refine wpAny_isSubtype_exc hC ?_; rw [me]) | wp_step)
 rw [h1]
 refine wpAny_pure ?_
 rw [if_neg (by decide)]
 exact wpAny_pure (wpAny_raiseNew_none hh hE)
end
end L2
set_option maxRecDepth 100000
set_option maxHeartbeats 1000000
namespace L2
open PySem PySem.Spec PyProof.Rows
noncomputable def exN (e C : Addr) (dx : Option Addr) : Heap → Prop := fun h => ∃ vs : Array Value, h.get? e = some ⟨.ref C, dx, .fields vs, #[]⟩ ∧ 1 < vs.size ∧ vs[1]? = some .none
theorem exN_ok {P : Program} {w : World} {H : Hp} {h : Heap} {e C : Addr} {dx : Option Addr} (x : exN e C dx h) : ObjOk P w H h e (.ext (exN e C dx)) :=
 ⟨x, x.elim fun vs q => ⟨_, q.1⟩, fun h1 h2 x1 k => by obtain ⟨vs, q, r⟩ := x1; exact ⟨vs, k _ q, r⟩⟩
noncomputable def dropH (H : Hp) (e : Addr) : Hp := fun b => if b = e then none else H b
theorem dropH_ne {H : Hp} {e b : Addr} (n : b ≠ e) : dropH H e b = H b := by unfold dropH; rw [if_neg n]
theorem dropH_same {H : Hp} {e : Addr} : dropH H e e = none := by unfold dropH; rw [if_pos rfl]
section
variable {X : Cx} {pins : List (Addr × Obj)} {σ : St} {H : Hp} {s : Shared} {h' : Heap} {e C : Addr}
theorem Inv.drop {φ : Heap → Prop} (I : Inv X pins σ H s) (h : H e = some (.ext φ)) : Inv X pins σ (dropH H e) s := by
 have ne : ∀ {b : Addr} {o : HO}, H b = some o → (∀ ψ, o ≠ .ext ψ) → b ≠ e := fun {b o} q n z => by
  subst z
  rw [h] at q
  injection q with q
  exact n φ q.symm
 refine I.un (t' := s.toks) (h' := s.heap) ⟨fun b o q n _ _ => q, fun b o q n _ _ => ⟨o.slots, q⟩, fun b o q n _ => ?_, fun b o q _ => ⟨o, q⟩, fun b xs q => ?_, fun b o u q => ?_, fun b ps q => ⟨#[], ?_⟩⟩ fun b o q => ?_
 ·unfold dropH
  split
  ·rfl
  ·exact n
 ·rw [dropH_ne (ne q (by simp))]; exact q
 ·rw [dropH_ne (ne q (by simp))]; exact q
 ·rw [dropH_ne (ne q (by simp)), q]; simp
 ·have nb : b ≠ e := fun z => by rw [z, dropH_same] at q; cases q
  rw [dropH_ne nb] at q
  exact (I.hok b o q).stay (fun c u _ z => z) (fun c z => by rw [dropH_ne (ne z (by simp))]; exact z) fun c xs z => by rw [dropH_ne (ne z (by simp))]; exact z
theorem Inv.setx {vs : Array Value} {y : V} {u : Value} {f : Str} {t' : Nat} (I : Inv X pins σ H s) (hH : H e = some (.ext (exN e C none))) (he : h'.get? e = some ⟨.ref C, some s.heap.objs.size, .fields vs, #[]⟩) (v1 : 1 < vs.size) (v2 : vs[1]? = some .none)
  (hn : h'.Ns1 s.heap.objs.size (fun z => if z = f then some u else none)) (k : ∀ b o, b ≠ e → s.heap.get? b = some o → h'.get? b = some o) (ry : RelV y u) :
  Inv X pins σ (upd (upd H s.heap.objs.size (.xd [(f, y)])) e (.ext (exN e C (some s.heap.objs.size)))) { s with heap := h', toks := t' } := by
 have eN : e ≠ s.heap.objs.size := Nat.ne_of_lt (I.hok e _ hH).lt
 have hN : H s.heap.objs.size = none := I.hok.fresh (Nat.le_refl _)
 have nn : ∀ {b : Addr} {o : HO}, H b = some o → b ≠ s.heap.objs.size := fun {b o} q z => by rw [z, hN] at q; cases q
 have ne : ∀ {b : Addr} {o : HO}, H b = some o → (∀ ψ, o ≠ .ext ψ) → b ≠ e := fun {b o} q n z => by
  subst z
  rw [hH] at q
  injection q with q
  exact n _ q.symm
 have fr : ∀ b, H b = none → b ≠ e := fun b q z => by rw [z, hH] at q; cases q
 refine I.un (t' := t') ⟨fun b o q n _ _ => k b o (fr b n) q, fun b o q n _ _ => ⟨o.slots, k b o (fr b n) q⟩, fun b o q n _ => ?_, fun b o q _ => ?_, fun b xs q => ?_, fun b o u q => ?_, fun b ps q => ⟨#[], ?_⟩⟩ fun b o q => ?_
 ·rw [upd_ne (fr b n), upd_ne (Nat.ne_of_lt (Heap.lt_size q))]; exact n
 ·by_cases z : b = e
  ·exact ⟨_, z ▸ he⟩
  ·exact ⟨o, k b o z q⟩
 ·rw [upd_ne (ne q (by simp)), upd_ne (nn q)]; exact q
 ·rw [upd_ne (ne q (by simp)), upd_ne (nn q)]; exact q
 ·rw [upd_ne (ne q (by simp)), upd_ne (nn q), q]; simp
 ·by_cases z : b = e
  ·subst z
   rw [upd_same] at q
   cases q
   exact exN_ok ⟨vs, he, v1, v2⟩
  ·rw [upd_ne z] at q
   by_cases z2 : b = s.heap.objs.size
   ·subst z2
    rw [upd_same] at q
    cases q
    refine ⟨_, hn, fun g => ?_⟩
    show RelO (List.lookup g [(f, y)]) (if g = f then some u else none)
    by_cases c : g = f
    ·rw [if_pos c, c]
     simp only [List.lookup, BEq.rfl]
     exact ry
    ·rw [if_neg c]
     have : (g == f) = false := beq_eq_false_iff_ne.mpr c
     simp only [List.lookup, this]
     exact True.intro
   ·rw [upd_ne z2] at q
    refine (I.hok b o q).stay (fun c u hc g => ?_) (fun c g => by rw [upd_ne (ne g (by simp)), upd_ne (nn g)]; exact g) fun c xs g => by rw [upd_ne (ne g (by simp)), upd_ne (nn g)]; exact g
    rcases hc with r | r
    ·exact k c u (r ▸ z) g
    ·exact k c u (ne r (by simp)) g
end
structure XfAt (K : PySem.W.Frag) (C : Addr) (f : Str) : Prop where
 sa : PySem.W.findIn K (.ref C) "__setattr__" = some (some (.builtin "object.__setattr__"))
 no : PySem.W.findIn K (.ref C) f = some none
noncomputable def sFldX (C : Addr) (ta tv : TE) (f : Str) : TS := fun D σ H => tv σ H fun y H1 => ta σ H1 fun x H2 => ∃ e, x = .ref e ∧ H2 e = some (.ext (exN e C none)) ∧ ∀ dx, H2 dx = none → D.nx σ (upd (upd H2 dx (.xd [(f, y)])) e (.ext (exN e C (some dx))))
section
variable {X : Cx} {E : XK}
theorem XcAt.cd {K : PySem.W.Frag} {mg : Str → Option Value} {x : Str} {C R : Addr} {ini : Option Value} (c : XcAt K mg x C R ini) : ∃ cd : ClassData, PySem.W.clsIn K C = some cd ∧ cd.mro = .ref C :: .ref R :: vErr ∧ cd.hasDict = true := by
 obtain ⟨N, nm, q, bs, sn, sub, ab, col, dd, k0, k1, k2, k3, k5, l, _⟩ := c.cls
 unfold PySem.W.clsIn
 rw [l]
 exact ⟨_, rfl, rfl, rfl⟩
theorem ps_fldX {o value : Expr} {f x : Str} {C R : Addr} {ini : Option Value} {pos pos' : Pos} {ta tv : TE} (c : XcAt X.K X.mg x C R ini) (m : XfAt X.K C f) (ha : PE X o ta) (hv : PE X value tv) (hs : isComp value = false := by rfl) : PS X (.Assign [.Attribute o f pos'] value pos) (sFldX C ta tv f) := by
 intro pins s σ H D I h
 obtain ⟨cd, hc, hm, hd⟩ := c.cd
 refine plainObj_wpAny_Assign_Attribute (thn (hv pins s σ H _ I h) fun u s1 ⟨y, H1, I1, ry, q⟩ => thn (ha pins s1 σ H1 _ I1 q) fun ov s2 ⟨x, H2, I2, rx, e, ex, eH, q2⟩ => ?_) (swaps_of hs)
 subst ex
 obtain rfl : ov = Value.ref e := rx
 obtain ⟨⟨vs, he, v1, v2⟩, _⟩ := I2.hok e _ eH
 refine set_x I2.kIn he hc hm hd m.sa m.no fun h' t' g1 g2 g3 => ⟨σ, _, I2.setx eH g1 v1 v2 g2 g3 ry, q2 _ (I2.hok.fresh (Nat.le_refl _))⟩
end
noncomputable def tRaiseI (C : Addr) (sp : Sp) (E : XK) (ta : TA) : TS := fun _ σ H => ta σ H fun vs H1 => ∀ e, H1 e = none → sp (.ref e :: vs) (upd H1 e (.ext (exN e C none))) (fun v H2 => v = .non ∧ ∃ dx, H2 e = some (.ext (exN e C dx)) ∧ E (.ref C) dx (dropH H2 e)) E0
section
variable {X : Cx} {E : XK}
theorem Inv.newx {pins : List (Addr × Obj)} {σ : St} {H : Hp} {s : Shared} {h' : Heap} {e C : Addr} {args : List Value} (I : Inv X pins σ H s) (he : H e = none) (hm : Heap.MadeExcOf s.heap h' e (.ref C) args) : Inv X pins σ (upd H e (.ext (exN e C none))) { s with heap := h' } := by
 obtain ⟨t, oe, _, _⟩ := hm.there
 have ne : ∀ {b : Addr} {o : HO}, H b = some o → b ≠ e := fun {b o} q z => by rw [z, he] at q; cases q
 refine I.un (t' := s.toks) ⟨fun b o q n _ _ => hm.keeps b o q, fun b o q n _ _ => ⟨o.slots, hm.keeps b o q⟩, fun b o q n _ => ?_, fun b o q _ => ⟨o, hm.keeps b o q⟩, fun b xs q => ?_, fun b o u q => ?_, fun b ps q => ⟨#[], ?_⟩⟩ fun b o q => ?_
 ·rw [upd_ne (fun z => by rw [z, hm.new] at q; cases q)]; exact n
 ·rw [upd_ne (ne q)]; exact q
 ·rw [upd_ne (ne q)]; exact q
 ·rw [upd_ne (ne q), q]; simp
 ·by_cases z : b = e
  ·subst z
   rw [upd_same] at q
   cases q
   exact exN_ok ⟨_, oe, by show 1 < 6; decide, rfl⟩
  ·rw [upd_ne z] at q
   exact (I.hok b o q).stay (fun c u _ g => hm.keeps c u g) (fun c g => by rw [upd_ne (ne g)]; exact g) fun c xs g => by rw [upd_ne (ne g)]; exact g
theorem ps_raiseI {CX : CXT} [Quiet CX] {x : Str} {C R : Addr} {ini : Option Value} {k : Nat} {ps : List Str} {sp : Sp} {a : Expr} {es : List Expr} {ta : TA} {np cpos pos : Pos} (c : XcAt X.K X.mg x C R ini) (G : MtAt X.prog X.w X.K X.mg X.base CX C "__init__" k ps sp) (kp : PySem.W.keepIn X.K (.ref C) = true)
  (hr : Room (k + 1) X.A) (hz : Rz X E) (hc : X.calm = true) (hex : X.ex = []) (hg : Gl X x) (ha : PA X (a :: es) ta) (hdb : (x == ("__debug__" : Str)) = false := by decide)
  (he : starEach (a :: es) X.env = (false, eval a X.env) :: starEach es X.env := by rfl) (hpl : (backTo cpos (starEach es X.env)).any (·.1) = false := by rfl) (hlen : ∀ us : List Value, us.length + 1 = ps.length → us.length ≤ sizeLine := by intro us h; simp at h; rw [sizeLine_eq]; omega) :
  PS X (.Raise (some (.Call (.Name x np) (a :: es) [] cpos)) none pos) (tRaiseI C sp E ta) := by
 intro pins s σ H D I h
 obtain ⟨f, fd, F, M, hb⟩ := G
 obtain ⟨N, nm, q, bs, sn, sub, ab, col, dd, k0, k1, k2, k3, k5, l, _⟩ := c.cls
 rw [arm_exec_Raise]
 refine wpAny_bind (wpAny_standAt ?_)
 refine raise_x (nm := nm) (q := q) (C := C) (N := N) (bs := bs) (bm := .ref R :: vErr) (hdct := true) (sn := sn) (sub := sub) (ab := ab) (col := col) (dd := dd) (k0 := k0) (k1 := k1) (k2 := k2) (k3 := k3) (k5 := k5) ((c.tail I.kIn).hasType (by decide +kernel)) (I.ok.hd hc) ?_
 refine wpAny_bind (wpAny_mono (wpAny_Call_Name_kw (ld_glob I hg c.mgC (PySem.W.callWith_K (h₀ := X.base) I.ok.mod.kin kp (thn (ha cpos pins s σ H _ I h) fun us s1 ⟨vs, H1, I1, r, q1⟩ => ⟨I1.kIn, ?_⟩) he hpl) hdb)) (fun v s₃ h₃ => wpAny_bind (wpAny_standAt (wpAny_pure h₃))) fun _ _ z => z)
 have T := c.tail I1.kIn
 have hC := I1.kIn _ _ l
 have hl1 : us.length ≤ sizeLine := by
  have e0 := (q1 s1.heap.objs.size (I1.hok.fresh (Nat.le_refl _)))
  have e1 := F.len _ _ _ _ e0
  have e2 := r.length
  rw [List.length_cons] at e1
  exact hlen us (by omega)
 obtain ⟨hp, g, d, t, os⟩ := s1
 refine call_x I1.kIn T hC M.at_ (beq_iff_eq.mp M.fn) hl1 fun h' e hm => ?_
 have e0 : H1 e = none := by
  cases z : H1 e with
  | none => rfl
  | some u =>
   obtain ⟨o', e'⟩ := (I1.hok e u z).there
   rw [hm.new] at e'; cases e'
 have n0 : X.s₀.heap.get? e = none := by
  cases z : X.s₀.heap.get? e with
  | none => rfl
  | some o =>
   obtain ⟨o', e'⟩ := I1.base.there e o z (by rw [hex]; simp)
   rw [hm.new] at e'; cases e'
 have I2 := I1.newx e0 hm
 have hq := q1 e e0
 have r2 : Vals (V.ref e :: vs) (Value.ref e :: us) := .cons rfl r
 have hl : (Value.ref e :: us ++ []).length = ps.length := by
  have z := F.len _ _ _ _ hq
  rw [List.append_nil, ← r2.length]
  exact z
 refine wpAny_call (codeAny_mono (F.run _ X.stack _ _ ⟨Value.ref e :: us, []⟩ (Value.ref e :: us) _ _ E0 (hr.make C us []) (I2.env0.make C us []) (by have z := hb { heap := h', gens := g, drawn := d, toks := t, os := os } (Value.ref e :: us) I2.kIn hl; rw [List.append_nil] at z; exact z) r2 hq) fun r s' hq' => ?_)
 cases r with
 | error x => exact Quiet.pass X pins σ _ _ x s' I2 hq'
 | ok fl =>
  cases fl with
  | ret u =>
   obtain ⟨v, H', I3, rv, ev, dx, eH, hE⟩ := I2.after hq'
   subst ev
   obtain ⟨⟨ws, oe, w1, w2⟩, _⟩ := I3.hok e _ eH
   exact ⟨rv, e, dx, ws, rfl, I3.kIn _ _ l, oe, w2, hz _ _ _ _ _ _ _ none ⟨I3.drop eH, ⟨_, ws, oe, rfl, rfl, rfl, w1, w2⟩, n0, dropH_same, (fun T z => by cases z), fun p hp => ⟨fun z => (by have q := (I1.pin p hp).1; rw [z, hm.new] at q; cases q), fun T z => by cases z⟩⟩ hE⟩
  | next => exact False.elim hq'
  | brk => exact False.elim hq'
  | cont => exact False.elim hq'
end
end L2
set_option maxRecDepth 100000
set_option maxHeartbeats 1000000
namespace L2
open PySem PySem.Spec PyProof.Rows
noncomputable def exF (e : Addr) (cls : Value) (dx : Option Addr) : Heap → Prop := fun h => ∃ oe vs, h.get? e = some oe ∧ oe.cls = cls ∧ oe.dict = dx ∧ oe.data = .fields vs
section
variable {X : Cx} {pins : List (Addr × Obj)} {σ : St} {H : Hp} {s : Shared} {h' : Heap} {ea : Addr} {cls : Value} {dx tb : Option Addr}
end
section
variable {X : Cx} {pins pn : List (Addr × Obj)} {σ σ0 : St} {H : Hp} {s : Shared} {E : XK}
end
end L2
set_option maxRecDepth 100000
set_option maxHeartbeats 1000000
namespace L2
open PySem PySem.Spec PyProof.Rows
noncomputable def tCallS (σ0 : St) (sp : Sp) (E : XK) (t : TA) : TE := fun σ H Q => σ = σ0 ∧ t σ H fun vs H1 => sp vs H1 Q E
noncomputable def tMakeS (σ0 : St) (C : Addr) (sp : Sp) (E : XK) (t : TA) : TE := fun σ H Q => σ = σ0 ∧ t σ H fun vs H1 => ∀ x dx, H1 x = none → H1 dx = none → dx ≠ x →
 sp (.ref x :: vs) (upd (upd H1 dx (.own x)) x (.ins C dx [])) (fun v H2 => v = .non ∧ Q (.ref x) H2) E
noncomputable def tMtS (σ0 : St) (C : Addr) (m : Str) (sp : Sp) (E : XK) (ta : TE) (t : TA) : TE := fun σ H Q => σ = σ0 ∧ ta σ H fun x H1 => rMt C m x H1 (t σ H1 fun vs H2 => sp (x :: vs) H2 Q E)
section
variable {X : Cx} {CX : CXT} {k n : Nat} {f C : Addr} {fd : FuncData} {ps : List Str} {sp : Sp} {E : XK} {x m : Str} {p pos apos : Pos} {e o : Expr} {es : List Expr} {ta : TE} {t : TA} {σ0 : St}
end
structure XmAt (K : PySem.W.Frag) (mg : Str → Option Value) (x : Str) (C : Addr) : Prop where
 mgC : mg x = some (.ref C)
 ty : PySem.W.typeIn K (.ref C) = some (.type "type")
 ex : PySem.W.mroIn K C (.type "BaseException") = some true
noncomputable def isx (K : PySem.W.Frag) (cls : Value) (C : Addr) : Option Bool := match cls with
 | .ref D => PySem.W.mroIn K D (.ref C)
 | _ => none
noncomputable def hx2 (o : Option Bool) (p q : Prop) : Prop := match o with
 | some true => p
 | some false => q
 | none => False
theorem hx2_t {p q : Prop} : hx2 (some true) p q = p := rfl
theorem hx2_f {p q : Prop} : hx2 (some false) p q = q := rfl
section
variable {prog : Program} {w : World} {A : Around} {E : Value → Shared → Prop} {s : Shared} {K : PySem.W.Frag}
end
section
variable {X : Cx} {pins : List (Addr × Obj)} {σ : St} {H : Hp} {s : Shared} {M : Model} {A : Around} {E : Value → Shared → Prop}
end
noncomputable abbrev TH := Ends → St → Value → Option Addr → Hp → Prop
noncomputable def Ends.un (D : Ends) (i : Nat) : Ends := { nx := fun σ H => D.nx (σ.set i none) H, rt := D.rt, bk := fun σ H => D.bk (σ.set i none) H, ct := fun σ H => D.ct (σ.set i none) H }
noncomputable def tH0 : TH := fun _ _ _ _ _ => False
noncomputable def tHc (K : PySem.W.Frag) (C : Addr) (i : Nat) (th : TS) (tr : TH) : TH := fun D σ cls dx H => hx2 (isx K cls C) (∀ ea, H ea = none → th (D.un i) (σ.set i (some (.ref ea))) (upd H ea (.ext (exF ea cls dx)))) (tr D σ cls dx H)
noncomputable def tTry (tb : St → XK → TS) (th : TH) : TS := fun D σ H => tb σ (fun cls dx H' => th D σ cls dx H') D σ H
section
variable {X : Cx}
end
end L2
set_option maxRecDepth 100000
set_option maxHeartbeats 1000000
namespace L2
open PySem PySem.Spec PyProof.Rows
structure XgAt (K : PySem.W.Frag) (C : Addr) : Prop where
 ga : PySem.W.findIn K (.ref C) "__getattribute__" = some (some (.builtin "BaseException.__getattribute__"))
 gh : PySem.W.findIn K (.ref C) "__getattr__" = some none
 bx : PySem.W.mroIn K C (.type "BaseException") = some true
 ob : PySem.W.mroIn K C (.type "object") = some true
 hd : PySem.W.hasDictIn K C = true
 kc : PySem.W.findIn K (.ref C) "__class__" = some (some (.builtin "object.__class__"))
 kg : PySem.W.specialIn K (.builtin "object.__class__") "__get__" = some (some (.builtin "getset_descriptor.__get__"))
 kt : PySem.W.takesIn K (.builtin "object.__class__") = some true
section
variable {prog : Program} {w : World} {A : Around} {s : Shared} {K : PySem.W.Frag} {x C : Addr} {ox : Obj} {od : Option Obj} {name : Str}
end
theorem exF_inj {a : Addr} {c c' : Value} {d d' : Option Addr} (e : exF a c d = exF a c' d') : c = c' ∧ d = d' := by
 have h1 : exF a c d { objs := Array.replicate (a + 1) ⟨c, d, .fields #[], #[]⟩ } := ⟨⟨c, d, .fields #[], #[]⟩, #[], by unfold Heap.get?; simp, rfl, rfl, rfl⟩
 rw [e] at h1
 obtain ⟨oe, vs, e1, e2, e3, _⟩ := h1
 have e0 : Heap.get? { objs := Array.replicate (a + 1) ⟨c, d, .fields #[], #[]⟩ } a = some ⟨c, d, .fields #[], #[]⟩ := by unfold Heap.get?; simp
 rw [e0] at e1
 cases e1
 exact ⟨e2, e3⟩
theorem ex_exf {a : Addr} {c : Value} {d : Addr} {N : Addr → Prop} : (∃ dx, some (HO.ext (exF a c (some d))) = some (HO.ext (exF a c (some dx))) ∧ N dx) = N d := by
 apply propext; constructor
 ·rintro ⟨dx, e, h⟩
  have e1 := Option.some.inj e
  injection e1 with e2
  obtain ⟨_, e3⟩ := exF_inj e2
  cases e3
  exact h
 ·exact fun h => ⟨d, rfl, h⟩
theorem ex_exc {a : Addr} {C : Addr} {d : Option Addr} {N : Addr → Option Addr → Prop} : (∃ D dx, some (HO.ext (exF a (.ref C) d)) = some (HO.ext (exF a (.ref D) dx)) ∧ N D dx) = N C d := by
 apply propext; constructor
 ·rintro ⟨D, dx, e, h⟩
  have e1 := Option.some.inj e
  injection e1 with e2
  obtain ⟨e3, e4⟩ := exF_inj e2
  cases e3; cases e4
  exact h
 ·exact fun h => ⟨C, d, rfl, h⟩
theorem ex_xd {l : List (Str × V)} {N : List (Str × V) → Prop} : (∃ fs, some (HO.xd l) = some (HO.xd fs) ∧ N fs) = N l := by
 apply propext; constructor
 ·rintro ⟨fs, e, h⟩; cases e; exact h
 ·exact fun h => ⟨l, rfl, h⟩
noncomputable def rFldX (C : Addr) (f : Str) (x : V) (H : Hp) (Q : VK) : Prop := ∃ a, x = .ref a ∧ ∃ dx, H a = some (.ext (exF a (.ref C) (some dx))) ∧ ∃ fs, H dx = some (.xd fs) ∧ ∃ v, fs.lookup f = some v ∧ Q v H
noncomputable def tFldX (C : Addr) (f : Str) (ta : TE) : TE := fun σ H Q => ta σ H fun x H1 => rFldX C f x H1 Q
theorem rFldX_ref {C a : Addr} {f : Str} {H : Hp} {Q : VK} : rFldX C f (.ref a) H Q = ∃ dx, H a = some (.ext (exF a (.ref C) (some dx))) ∧ ∃ fs, H dx = some (.xd fs) ∧ ∃ v, fs.lookup f = some v ∧ Q v H := by
 apply propext; unfold rFldX; constructor
 ·rintro ⟨b, e, h⟩; cases e; exact h
 ·exact fun h => ⟨a, rfl, h⟩
noncomputable def isbO (o : Option Bool) (N : Bool → Prop) : Prop := match o with
 | some b => N b
 | none => False
theorem isbO_some {b : Bool} {N : Bool → Prop} : isbO (some b) N = N b := rfl
noncomputable def xdOk (H : Hp) : Option Addr → Prop
 | none => True
 | some d => ∃ fs, H d = some (.xd fs)
theorem xdOk_n {H : Hp} : xdOk H none = True := rfl
theorem xdOk_s {H : Hp} {d : Addr} : xdOk H (some d) = ∃ fs, H d = some (.xd fs) := rfl
theorem ex_xd1 {l : List (Str × V)} : (∃ fs, some (HO.xd l) = some (HO.xd fs)) = True := eq_true ⟨l, rfl⟩
noncomputable def rIsiX (K : PySem.W.Frag) : List V → Hp → VK → Prop := fun xs H Q => match xs with
 | [.ref p, .ref C] => ∃ D dx, H p = some (.ext (exF p (.ref D) dx)) ∧ XgAt K D ∧ xdOk H dx ∧ isbO (PySem.W.kitOne K (.ref D) (.ref C)) fun b => Q (.bl b) H
 | [.ref p, .ty n] => ∃ D dx, H p = some (.ext (exF p (.ref D) dx)) ∧ XgAt K D ∧ xdOk H dx ∧ isbO (PySem.W.kitOne K (.ref D) (.type n)) fun b => Q (.bl b) H
 | _ => False
theorem rIsiX_ref {K : PySem.W.Frag} {p C : Addr} {H : Hp} {Q : VK} : rIsiX K [.ref p, .ref C] H Q = ∃ D dx, H p = some (.ext (exF p (.ref D) dx)) ∧ XgAt K D ∧ xdOk H dx ∧ isbO (PySem.W.kitOne K (.ref D) (.ref C)) fun b => Q (.bl b) H := rfl
theorem rIsiX_ty {K : PySem.W.Frag} {p : Addr} {n : String} {H : Hp} {Q : VK} : rIsiX K [.ref p, .ty n] H Q = ∃ D dx, H p = some (.ext (exF p (.ref D) dx)) ∧ XgAt K D ∧ xdOk H dx ∧ isbO (PySem.W.kitOne K (.ref D) (.type n)) fun b => Q (.bl b) H := rfl
section
variable {X : Cx} {e : Expr} {f x : Str} {C : Addr} {ta : TE} {pos : Pos}
end
section
variable {X : Cx} {CX : CXT} {k n : Nat} {C R : Addr} {ps : List Str} {sp : Sp} {E : XK} {x m : Str} {p pos apos : Pos} {e o : Expr} {es : List Expr} {ta : TE} {t : TA} {st : Stmt} {ts : TS}
theorem PS.nox (h : PS X.nox st ts) : PS X st ts := fun pins s σ H D I hw =>
 wpAny_mono (h pins s σ H D (I.wish _) hw) (fun _ _ q => q.unwish) fun _ _ z => False.elim z
noncomputable def XcI (K : PySem.W.Frag) (mg : Str → Option Value) (x : Str) (C R : Addr) : Prop := ∃ ini, XcAt K mg x C R ini
theorem ps_raiseIQ {CX : CXT} [Quiet CX] (c : XcI X.K X.mg x C R) (G : MtAt X.prog X.w X.K X.mg X.base CX C "__init__" k ps sp) (kp : PySem.W.keepIn X.K (.ref C) = true) (hr : Room n X.A) (hk : k + 1 ≤ n) (hz : Rz X E) (hc : X.calm = true) (hex : X.ex = []) (hg : Gl X x) (ha : PA X (e :: es) t)
  (hdb : (x == ("__debug__" : Str)) = false := by decide) (h : (e :: es).any isStar = false := by rfl) (hlen : ∀ us : List Value, us.length + 1 = ps.length → us.length ≤ sizeLine := by intro us h; simp at h; rw [sizeLine_eq]; omega) :
  PS X (.Raise (some (.Call (.Name x p) (e :: es) [] apos)) none pos) (tRaiseI C sp E t) := by
 obtain ⟨ini, c⟩ := c
 rw [List.any_cons, Bool.or_eq_false_iff] at h
 exact ps_raiseI c G kp (hr.mono hk) hz hc hex hg ha hdb (starEach_of h.1) (noStars h.2) hlen
theorem ps_fldXQ {value : Expr} {f : Str} {pos' : Pos} {tv : TE} (c : XcI X.K X.mg x C R) (m : XfAt X.K C f) (ha : PE X o ta) (hv : PE X value tv) (hs : isComp value = false := by rfl) : PS X (.Assign [.Attribute o f pos'] value pos) (sFldX C ta tv f) := by
 obtain ⟨ini, c⟩ := c
 exact ps_fldX c m ha hv hs
end
theorem MethAt.fnX {P : Program} {w : World} {K : PySem.W.Frag} {mg : Str → Option Value} {base : Heap} {CX : CXT} {C : Addr} {m q : Str} {st : Stmt} {N ps : List Str} {k : Nat} {sp : Sp} (F : MethAt K C m q st) (S : FnScope N ps (defScope st))
  (hb : ∀ (kV doc pm : Value) (an : Option Addr) (cdv ct : Value) (us : List Value), us.length = ps.length → bindArgs (PySem.W.fnOf m q (defArgs st) (defBody st) (defScope st) .none kV doc pm an cdv ct) ⟨us, []⟩ = pure (ps.zip us))
  (len : ∀ vs H Q E, sp vs H Q E → vs.length = ps.length)
  (hbody : ∀ (f : Addr) (cdv : Value) (A : Around) (outer : List Env) (s : Shared) (H : Hp) (vs : List V) (Q : VK) (E : XK), Room k (A.deeper (envOfC q (defScope st) s.heap.objs.size f cdv)) → sp vs H Q E →
   ∃ t, PSs (cxOf CX P w K mg base N q (defScope st) f cdv A outer s H E) (defBody st) t ∧ t { nx := fun _ H' => Q .non H', rt := Q } (start N vs) H) : MtAt P w K mg base CX C m (k + 1) ps sp := by
 obtain ⟨f, fd, F, hm⟩ := F
 have bd := F.binds hb
 obtain ⟨oc, od, kV, doc, pm, an, cdv, ct, osl, rfl, lk, hcd⟩ := F.ex
 exact ⟨f, _, fn_of lk hcd S len fun A outer s H vs Q E hr hsp => hbody f cdv A outer s H vs Q E hr hsp, hm, bd⟩
theorem xgat_mk {K : PySem.W.Frag} {C : Addr} (ga : PySem.W.findIn K (.ref C) "__getattribute__" = some (some (.builtin "BaseException.__getattribute__"))) (gh : PySem.W.findIn K (.ref C) "__getattr__" = some none) (bx : PySem.W.mroIn K C (.type "BaseException") = some true)
  (ob : PySem.W.mroIn K C (.type "object") = some true) (hd : PySem.W.hasDictIn K C = true) (kc : PySem.W.findIn K (.ref C) "__class__" = some (some (.builtin "object.__class__"))) (kg : PySem.W.specialIn K (.builtin "object.__class__") "__get__" = some (some (.builtin "getset_descriptor.__get__")))
  (kt : PySem.W.takesIn K (.builtin "object.__class__") = some true) : XgAt K C := ⟨ga, gh, bx, ob, hd, kc, kg, kt⟩
theorem xmat_mk {K : PySem.W.Frag} {h : Heap} {mg : Str → Option Value} {x : Str} {C : Addr} (X : K.In h) (G : h.Ns mainGlobals mg) (a : PySem.W.nsIn K mainGlobals x = some (some (.ref C))) (t : PySem.W.typeIn K (.ref C) = some (.type "type")) (b : PySem.W.mroIn K C (.type "BaseException") = some true) : XmAt K mg x C :=
 ⟨PySem.W.mg_of X G a, t, b⟩
end L2
set_option maxRecDepth 100000
set_option maxHeartbeats 1000000
namespace L2
open PySem PySem.Spec PyProof.Rows
noncomputable def Dn (K : PySem.W.Frag) (H : Hp) : Nat → V → Dt → Prop
 | 0, x, d => (x = .non ∧ d = .non) ∨ (∃ i, x = .int i ∧ d = .int i) ∨ (∃ z, x = .str z ∧ d = .str z) ∨ (∃ b, x = .bl b ∧ d = .int (if b then 1 else 0))
 | n + 1, x, d => Dn K H n x d ∨ (∃ a xs ds, x = .ref a ∧ d = .l ds ∧ SqL K H a xs ∧ Paired (Dn K H n) xs ds) ∨ (∃ a xs ds, x = .ref a ∧ d = .t ds ∧ SqT K H a xs ∧ Paired (Dn K H n) xs ds)
section
variable {X : Cx} {pins : List (Addr × Obj)} {σ : St} {H : Hp} {s : Shared}
open Classical in
theorem decD_int {i j : Int} : decide (Dt.int i = Dt.int j) = (i == j) := by
 rw [Bool.eq_iff_iff, decide_eq_true_eq, beq_iff_eq]
 exact ⟨fun q => Dt.int.inj q, fun q => by rw [q]⟩
theorem bl_eq (a b : Bool) : ((if a then (1 : Int) else 0) == (if b then 1 else 0)) = (a == b) := by cases a <;> cases b <;> rfl
open Classical in
theorem dn_scal {A : Around} {x y : V} {u v : Value} {d e : Dt} (rx : RelV x u) (ry : RelV y v) (hx : Dn X.K H 0 x d) (hy : Dn X.K H 0 y e) : SeqAt.EqAt A s u v (decide (d = e)) := by
 rcases hx with ⟨rfl, rfl⟩ | ⟨i, rfl, rfl⟩ | ⟨i, rfl, rfl⟩ | ⟨i, rfl, rfl⟩ <;> rcases hy with ⟨rfl, rfl⟩ | ⟨j, rfl, rfl⟩ | ⟨j, rfl, rfl⟩ | ⟨j, rfl, rfl⟩
 ·cases rx; cases ry; rw [decide_eq_true rfl]; exact SeqAt.EqAt.same _
 ·cases rx; obtain ⟨t, rfl⟩ := ry; rw [decide_eq_false (fun z => nomatch z)]; exact SeqAt.EqAt.none_int _ _
 ·cases rx; obtain ⟨t, rfl⟩ := ry; rw [decide_eq_false (fun z => nomatch z)]; exact SeqAt.EqAt.none_str _ _
 ·cases rx; cases ry; rw [decide_eq_false (fun z => nomatch z)]; exact SeqAt.EqAt.none_bool _
 ·obtain ⟨t, rfl⟩ := rx; cases ry; rw [decide_eq_false (fun z => nomatch z)]; exact SeqAt.EqAt.int_none _ _
 ·obtain ⟨t, rfl⟩ := rx; obtain ⟨t', rfl⟩ := ry; rw [decD_int]; exact SeqAt.EqAt.int_int _ _ _ _
 ·obtain ⟨t, rfl⟩ := rx; obtain ⟨t', rfl⟩ := ry; rw [decide_eq_false (fun z => nomatch z)]; exact SeqAt.EqAt.int_str _ _ _ _
 ·obtain ⟨t, rfl⟩ := rx; cases ry; rw [decD_int]; exact SeqAt.EqAt.int_bool _ _ _
 ·obtain ⟨t, rfl⟩ := rx; cases ry; rw [decide_eq_false (fun z => nomatch z)]; exact SeqAt.EqAt.str_none _ _
 ·obtain ⟨t, rfl⟩ := rx; obtain ⟨t', rfl⟩ := ry; rw [decide_eq_false (fun z => nomatch z)]; exact SeqAt.EqAt.str_int _ _ _ _
 ·obtain ⟨t, rfl⟩ := rx; obtain ⟨t', rfl⟩ := ry
  have e : decide (Dt.str i = Dt.str j) = (i == j) := by
   rw [Bool.eq_iff_iff, decide_eq_true_eq, beq_iff_eq]
   exact ⟨fun q => Dt.str.inj q, fun q => by rw [q]⟩
  rw [e]; exact SeqAt.EqAt.str_str _ _ _ _
 ·obtain ⟨t, rfl⟩ := rx; cases ry; rw [decide_eq_false (fun z => nomatch z)]; exact SeqAt.EqAt.str_bool _ _ _
 ·cases rx; cases ry; rw [decide_eq_false (fun z => nomatch z)]; exact SeqAt.EqAt.bool_none _
 ·cases rx; obtain ⟨t, rfl⟩ := ry; rw [decD_int]; exact SeqAt.EqAt.bool_int _ _ _
 ·cases rx; obtain ⟨t, rfl⟩ := ry; rw [decide_eq_false (fun z => nomatch z)]; exact SeqAt.EqAt.bool_str _ _ _
 ·cases rx; cases ry; rw [decD_int, bl_eq]; exact SeqAt.EqAt.bool_bool _ _
theorem Dn.cases {K : PySem.W.Frag} {H : Hp} : ∀ {n : Nat} {x : V} {d : Dt}, Dn K H n x d → Dn K H 0 x d ∨ (∃ m, m < n ∧ ∃ a xs ds, x = .ref a ∧ d = .l ds ∧ SqL K H a xs ∧ Paired (Dn K H m) xs ds) ∨ (∃ m, m < n ∧ ∃ a xs ds, x = .ref a ∧ d = .t ds ∧ SqT K H a xs ∧ Paired (Dn K H m) xs ds)
 | 0, _, _, h => .inl h
 | n + 1, _, _, h => by
  rcases h with h | h | h
  ·rcases Dn.cases h with q | ⟨m, hm, q⟩ | ⟨m, hm, q⟩
   ·exact .inl q
   ·exact .inr (.inl ⟨m, by omega, q⟩)
   ·exact .inr (.inr ⟨m, by omega, q⟩)
  ·exact .inr (.inl ⟨n, by omega, h⟩)
  ·exact .inr (.inr ⟨n, by omega, h⟩)
theorem Dn.up {K : PySem.W.Frag} {H : Hp} {n m : Nat} {x : V} {d : Dt} (h : Dn K H n x d) (hm : n ≤ m) : Dn K H m x d := by
  induction m with
  | zero => have : n = 0 := by omega
            subst this; exact h
  | succ m ih =>
    by_cases e : n = m + 1
    · subst e; exact h
    · exact .inl (ih (by omega))
theorem dn_det (n : Nat) : ∀ {m : Nat} {x : V} {d e : Dt}, Inv X pins σ H s → Dn X.K H n x d → Dn X.K H m x e → d = e := by
 induction n using Nat.strongRecOn with
 | _ n ih =>
 intro m x d e I hx hy
 rcases hx.cases with hx | ⟨m1, hm, a, xs, ds, rfl, rfl, ha, pa⟩ | ⟨m1, hm, a, xs, ds, rfl, rfl, ha, pa⟩
 ·rcases hy.cases with hy | ⟨k, hk, b, ys, es, rfl, rfl, hb, pb⟩ | ⟨k, hk, b, ys, es, rfl, rfl, hb, pb⟩
  ·rcases hx with ⟨rfl, rfl⟩ | ⟨i, rfl, rfl⟩ | ⟨i, rfl, rfl⟩ | ⟨i, rfl, rfl⟩ <;> rcases hy with ⟨z, rfl⟩ | ⟨j, z, rfl⟩ | ⟨j, z, rfl⟩ | ⟨j, z, rfl⟩ <;> first | rfl | (cases z; rfl) | cases z
  ·rcases hx with ⟨z, _⟩ | ⟨i, z, _⟩ | ⟨i, z, _⟩ | ⟨i, z, _⟩ <;> cases z
  ·rcases hx with ⟨z, _⟩ | ⟨i, z, _⟩ | ⟨i, z, _⟩ | ⟨i, z, _⟩ <;> cases z
 ·rcases hy.cases with hy | ⟨k, hk, b, ys, es, e1, rfl, hb, pb⟩ | ⟨k, hk, b, ys, es, e1, rfl, hb, pb⟩
  ·rcases hy with ⟨z, _⟩ | ⟨i, z, _⟩ | ⟨i, z, _⟩ | ⟨i, z, _⟩ <;> cases z
  ·cases e1
   have := I.list_inj ha hb
   subst this
   rw [paired_det pa pb fun x d e h1 h2 => ih m1 hm I h1 h2]
  ·cases e1
   exact (list_not_tuple I ha hb).elim
 ·rcases hy.cases with hy | ⟨k, hk, b, ys, es, e1, rfl, hb, pb⟩ | ⟨k, hk, b, ys, es, e1, rfl, hb, pb⟩
  ·rcases hy with ⟨z, _⟩ | ⟨i, z, _⟩ | ⟨i, z, _⟩ | ⟨i, z, _⟩ <;> cases z
  ·cases e1
   exact (list_not_tuple I hb ha).elim
  ·cases e1
   have := I.tuple_inj ha hb
   subst this
   rw [paired_det pa pb fun x d e h1 h2 => ih m1 hm I h1 h2]
open Classical in
theorem dn_items {n : Nat} {A : Around} {xs ys : List V} {its its2 : List Value} {ds es : List Dt} {m k : Nat} (r1 : Vals xs its) (r2 : Vals ys its2) (pa : Paired (Dn X.K H m) xs ds) (pb : Paired (Dn X.K H k) ys es)
  (ih : ∀ x y u v d e, RelV x u → RelV y v → Dn X.K H m x d → Dn X.K H k y e → SeqAt.EqAt A s u v (decide (d = e))) :
  ∀ j (h1 : j < its.toArray.size) (h2 : j < its2.toArray.size), SeqAt.EqAt A s its.toArray[j] its2.toArray[j] (decide (ds[j]? = es[j]?)) := by
 intro j h1 h2
 have h1' : j < its.length := by simpa using h1
 have h2' : j < its2.length := by simpa using h2
 have l1 := r1.length
 have l2 := r2.length
 have x1 : xs[j]? = some xs[j] := by simp
 have y1 : ys[j]? = some ys[j] := by simp
 obtain ⟨d', hd', pd⟩ := Paired.get pa x1
 obtain ⟨e', he', pe⟩ := Paired.get pb y1
 obtain ⟨u', hu1, ru⟩ := r1.get x1
 obtain ⟨v', hv1, rv⟩ := r2.get y1
 have e1 : its.toArray[j] = u' := by
  have : its[j]? = some its[j] := by simp
  rw [hu1] at this
  simpa using (Option.some.inj this).symm
 have e2 : its2.toArray[j] = v' := by
  have : its2[j]? = some its2[j] := by simp
  rw [hv1] at this
  simpa using (Option.some.inj this).symm
 have e3 : decide (ds[j]? = es[j]?) = decide (d' = e') := by
  rw [hd', he', Bool.eq_iff_iff, decide_eq_true_eq, decide_eq_true_eq]
  exact ⟨fun q => Option.some.inj q, fun q => by rw [q]⟩
 rw [e1, e2, e3]
 exact ih _ _ _ _ _ _ ru rv pd pe
open Classical in
theorem dn_rc (n : Nat) : ∀ {A : Around} {x y : V} {u v : Value} {d e : Dt}, Inv X pins σ H s → A.units + n < cLine → RelV x u → RelV y v → Dn X.K H n x d → Dn X.K H n y e → SeqAt.EqAt A s u v (decide (d = e)) ∧ ∀ a b, x = .ref a → y = .ref b → SeqAt.RcAt A s (.ref a) (.ref b) (decide (d = e)) := by
 induction n using Nat.strongRecOn with
 | _ n ih =>
 intro A x y u v d e I hu rx ry hx hy
 have lift : ∀ {a b : Addr}, x = .ref a → y = .ref b → SeqAt.RcAt A s (.ref a) (.ref b) (decide (d = e)) → SeqAt.EqAt A s (.ref a) (.ref b) (decide (d = e)) := fun {a b} ea eb q => by
  by_cases hab : a = b
  ·subst hab
   subst ea
   subst eb
   rw [decide_eq_true (dn_det n I hx hy)]
   exact SeqAt.EqAt.same _
  ·exact SeqAt.EqAt.of_refs hab q
 have hu' : A.units < cLine := by omega
 rcases hx.cases with hx' | ⟨m, hm, a, xs, ds, rfl, rfl, ha, pa⟩ | ⟨m, hm, a, xs, ds, rfl, rfl, ha, pa⟩
 ·rcases hy.cases with hy' | ⟨k, hk, b, ys, es, rfl, rfl, hb, pb⟩ | ⟨k, hk, b, ys, es, rfl, rfl, hb, pb⟩
  ·refine ⟨dn_scal rx ry hx' hy', fun a b e1 e2 => ?_⟩
   subst e1
   rcases hx' with ⟨z, _⟩ | ⟨i, z, _⟩ | ⟨i, z, _⟩ | ⟨i, z, _⟩ <;> cases z
  ·cases ry
   obtain ⟨its, _, p, _⟩ := I.list hb
   rcases hx' with ⟨rfl, rfl⟩ | ⟨i, rfl, rfl⟩ | ⟨i, rfl, rfl⟩ | ⟨i, rfl, rfl⟩
   ·cases rx; rw [decide_eq_false (fun z => nomatch z)]; exact ⟨SeqAt.EqAt.none_list p.isList hu', fun a b z => nomatch z⟩
   ·obtain ⟨t, rfl⟩ := rx; rw [decide_eq_false (fun z => nomatch z)]; exact ⟨SeqAt.EqAt.int_list _ _ p.isList hu', fun a b z => nomatch z⟩
   ·obtain ⟨t, rfl⟩ := rx; rw [decide_eq_false (fun z => nomatch z)]; exact ⟨SeqAt.EqAt.str_list _ _ p.isList hu', fun a b z => nomatch z⟩
   ·cases rx; rw [decide_eq_false (fun z => nomatch z)]; exact ⟨SeqAt.EqAt.bool_list _ p.isList hu', fun a b z => nomatch z⟩
  ·cases ry
   obtain ⟨its, _, p, _⟩ := I.tuple hb
   rcases hx' with ⟨rfl, rfl⟩ | ⟨i, rfl, rfl⟩ | ⟨i, rfl, rfl⟩ | ⟨i, rfl, rfl⟩
   ·cases rx; rw [decide_eq_false (fun z => nomatch z)]; exact ⟨SeqAt.EqAt.none_tuple p hu', fun a b z => nomatch z⟩
   ·obtain ⟨t, rfl⟩ := rx; rw [decide_eq_false (fun z => nomatch z)]; exact ⟨SeqAt.EqAt.int_tuple _ _ p hu', fun a b z => nomatch z⟩
   ·obtain ⟨t, rfl⟩ := rx; rw [decide_eq_false (fun z => nomatch z)]; exact ⟨SeqAt.EqAt.str_tuple _ _ p hu', fun a b z => nomatch z⟩
   ·cases rx; rw [decide_eq_false (fun z => nomatch z)]; exact ⟨SeqAt.EqAt.bool_tuple _ p hu', fun a b z => nomatch z⟩
 ·cases rx
  obtain ⟨its, r1, p, hz⟩ := I.list ha
  rcases hy.cases with hy' | ⟨k, hk, b, ys, es, rfl, rfl, hb, pb⟩ | ⟨k, hk, b, ys, es, rfl, rfl, hb, pb⟩
  ·rcases hy' with ⟨rfl, rfl⟩ | ⟨i, rfl, rfl⟩ | ⟨i, rfl, rfl⟩ | ⟨i, rfl, rfl⟩
   ·cases ry; rw [decide_eq_false (fun z => nomatch z)]; exact ⟨SeqAt.EqAt.list_none p.isList hu', fun a b _ z => nomatch z⟩
   ·obtain ⟨t, rfl⟩ := ry; rw [decide_eq_false (fun z => nomatch z)]; exact ⟨SeqAt.EqAt.list_int _ _ p.isList hu', fun a b _ z => nomatch z⟩
   ·obtain ⟨t, rfl⟩ := ry; rw [decide_eq_false (fun z => nomatch z)]; exact ⟨SeqAt.EqAt.list_str _ _ p.isList hu', fun a b _ z => nomatch z⟩
   ·cases ry; rw [decide_eq_false (fun z => nomatch z)]; exact ⟨SeqAt.EqAt.list_bool _ p.isList hu', fun a b _ z => nomatch z⟩
  ·cases ry
   obtain ⟨its2, r2, p2, hz2⟩ := I.list hb
   have l1 := r1.length
   have l2 := r2.length
   have l3 := Paired.length pa
   have l4 := Paired.length pb
   have eqd : decide (Dt.l ds = Dt.l es) = decide (ds = es) := by
    rw [Bool.eq_iff_iff, decide_eq_true_eq, decide_eq_true_eq]
    exact ⟨fun q => Dt.l.inj q, fun q => by rw [q]⟩
   have rc : SeqAt.RcAt A s (.ref a) (.ref b) (decide (Dt.l ds = Dt.l es)) := by
    rw [eqd]
    by_cases hl : its.length = its2.length
    ·have key := SeqAt.RcAt.lists (e := fun j => decide (ds[j]? = es[j]?)) p.isList p2.isList (by simpa using hl) hu' (dn_items (n := n) r1 r2 pa pb fun x y u v d e rx ry h1 h2 =>
      (ih (max m k) (by omega) (A := A.in1) I (by show A.units + 1 + max m k < cLine; omega) rx ry (h1.up (Nat.le_max_left _ _)) (h2.up (Nat.le_max_right _ _))).1)
     rw [all_items (by rw [List.size_toArray]; omega) (by omega)] at key
     exact key
    ·have hne : ds ≠ es := fun q => hl (by rw [q] at l3; omega)
     rw [decide_eq_false hne]
     exact SeqAt.RcAt.lists_lengths p.isList p2.isList (size_ne hl) hu'
   exact ⟨lift rfl rfl rc, fun a' b' e1 e2 => by cases e1; cases e2; exact rc⟩
  ·cases ry
   obtain ⟨its2, r2, p2, _⟩ := I.tuple hb
   rw [decide_eq_false (fun z => nomatch z)]
   exact ⟨SeqAt.EqAt.list_tuple p.isList p2 hu', fun a' b' e1 e2 => by cases e1; cases e2; exact SeqAt.RcAt.list_tuple p.isList p2 hu'⟩
 ·cases rx
  obtain ⟨its, r1, p, hz⟩ := I.tuple ha
  rcases hy.cases with hy' | ⟨k, hk, b, ys, es, rfl, rfl, hb, pb⟩ | ⟨k, hk, b, ys, es, rfl, rfl, hb, pb⟩
  ·rcases hy' with ⟨rfl, rfl⟩ | ⟨i, rfl, rfl⟩ | ⟨i, rfl, rfl⟩ | ⟨i, rfl, rfl⟩
   ·cases ry; rw [decide_eq_false (fun z => nomatch z)]; exact ⟨SeqAt.EqAt.tuple_none p hu', fun a b _ z => nomatch z⟩
   ·obtain ⟨t, rfl⟩ := ry; rw [decide_eq_false (fun z => nomatch z)]; exact ⟨SeqAt.EqAt.tuple_int _ _ p hu', fun a b _ z => nomatch z⟩
   ·obtain ⟨t, rfl⟩ := ry; rw [decide_eq_false (fun z => nomatch z)]; exact ⟨SeqAt.EqAt.tuple_str _ _ p hu', fun a b _ z => nomatch z⟩
   ·cases ry; rw [decide_eq_false (fun z => nomatch z)]; exact ⟨SeqAt.EqAt.tuple_bool _ p hu', fun a b _ z => nomatch z⟩
  ·cases ry
   obtain ⟨its2, r2, p2, _⟩ := I.list hb
   rw [decide_eq_false (fun z => nomatch z)]
   exact ⟨SeqAt.EqAt.tuple_list p p2.isList hu', fun a' b' e1 e2 => by cases e1; cases e2; exact SeqAt.RcAt.tuple_list p p2.isList hu'⟩
  ·cases ry
   obtain ⟨its2, r2, p2, hz2⟩ := I.tuple hb
   have l1 := r1.length
   have l2 := r2.length
   have l3 := Paired.length pa
   have l4 := Paired.length pb
   have eqd : decide (Dt.t ds = Dt.t es) = decide (ds = es) := by
    rw [Bool.eq_iff_iff, decide_eq_true_eq, decide_eq_true_eq]
    exact ⟨fun q => Dt.t.inj q, fun q => by rw [q]⟩
   have rc : SeqAt.RcAt A s (.ref a) (.ref b) (decide (Dt.t ds = Dt.t es)) := by
    rw [eqd]
    have key := SeqAt.RcAt.tuples (e := fun j => decide (ds[j]? = es[j]?)) p p2 hu' (dn_items (n := n) r1 r2 pa pb fun x y u v d e rx ry h1 h2 =>
      (ih (max m k) (by omega) (A := A.in1) I (by show A.units + 1 + max m k < cLine; omega) rx ry (h1.up (Nat.le_max_left _ _)) (h2.up (Nat.le_max_right _ _))).1)
    by_cases hl : its.length = its2.length
    ·rw [show min its.toArray.size its2.toArray.size = ds.length by rw [List.size_toArray, List.size_toArray]; omega, all_items rfl (by omega), show (its.toArray.size == its2.toArray.size) = true by rw [List.size_toArray, List.size_toArray, beq_iff_eq]; exact hl, Bool.and_true] at key
     exact key
    ·have hne : ds ≠ es := fun q => hl (by rw [q] at l3; omega)
     rw [decide_eq_false hne]
     rw [show (its.toArray.size == its2.toArray.size) = false by rw [List.size_toArray, List.size_toArray, beq_eq_false_iff_ne]; exact hl, Bool.and_false] at key
     exact key
   exact ⟨lift rfl rfl rc, fun a' b' e1 e2 => by cases e1; cases e2; exact rc⟩
end
noncomputable def rEqX (K : PySem.W.Frag) (neg : Bool) : R2 := fun x y H Q => match x, y with
 | .ref a, .ref b => ∃ n d e, n ≤ 60 ∧ Dn K H n (.ref a) d ∧ Dn K H n (.ref b) e ∧ ((d = e ∧ Q (.bl (!neg)) H) ∨ (d ≠ e ∧ Q (.bl neg) H))
 | x, y => scal x y = true ∧ Q (.bl (if neg then !decide (x = y) else decide (x = y))) H
section
variable {X : Cx}
open Classical in
theorem op_eqX (hu : X.A.units + 64 < cLine) : OpR X (compareOp .Eq) (rEqX X.K false) := by
 intro pins s σ H x y v u Q I rx ry h
 unfold rEqX at h
 split at h
 ·obtain ⟨n, d, e, hn, hd, he, q⟩ := h
  obtain ⟨_, rc⟩ := dn_rc n (A := X.A) I (by omega) rx ry hd he
  cases rx
  cases ry
  have := rc _ _ rfl rfl
  refine (this X.prog X.w _ _ ?_ : wpAny (model X.prog X.w) X.A (richCompare .Eq _ _) (EP X pins σ Q) X.xe s)
  rcases q with ⟨c, q⟩ | ⟨c, q⟩
  ·rw [decide_eq_true c]; exact ⟨.bl true, H, I, rfl, q⟩
  ·rw [decide_eq_false c]; exact ⟨.bl false, H, I, rfl, q⟩
 ·exact op_eq pins s σ H _ _ v u Q I rx ry ⟨h.1, by simpa using h.2⟩
open Classical in
theorem op_neX (hu : X.A.units + 64 < cLine) : OpR X (compareOp .NotEq) (rEqX X.K true) := by
 intro pins s σ H x y v u Q I rx ry h
 unfold rEqX at h
 split at h
 ·rename_i a b
  obtain ⟨n, d, e, hn, hd, he, q⟩ := h
  cases rx
  cases ry
  have hu' : X.A.units < cLine := by omega
  have fin : SeqAt.RcNeAt X.A s (.ref a) (.ref b) (!decide (d = e)) → wpAny (model X.prog X.w) X.A (compareOp .NotEq (.ref a) (.ref b)) (EP X pins σ Q) X.xe s := fun rc => by
   refine (rc X.prog X.w _ _ ?_ : wpAny (model X.prog X.w) X.A (richCompare .NotEq _ _) (EP X pins σ Q) X.xe s)
   rcases q with ⟨c, q⟩ | ⟨c, q⟩
   ·rw [decide_eq_true c]; exact ⟨.bl false, H, I, rfl, q⟩
   ·rw [decide_eq_false c]; exact ⟨.bl true, H, I, rfl, q⟩
  apply fin
  clear fin q
  rcases hd.cases with hx' | ⟨m, hm, a', xs, ds, e1, rfl, ha, pa⟩ | ⟨m, hm, a', xs, ds, e1, rfl, ha, pa⟩
  ·rcases hx' with ⟨z, _⟩ | ⟨i, z, _⟩ | ⟨i, z, _⟩ | ⟨i, z, _⟩ <;> cases z
  ·cases e1
   obtain ⟨its, r1, p, hz⟩ := I.list ha
   rcases he.cases with hy' | ⟨k, hk, b', ys, es, e2, rfl, hb, pb⟩ | ⟨k, hk, b', ys, es, e2, rfl, hb, pb⟩
   ·rcases hy' with ⟨z, _⟩ | ⟨i, z, _⟩ | ⟨i, z, _⟩ | ⟨i, z, _⟩ <;> cases z
   ·cases e2
    obtain ⟨its2, r2, p2, hz2⟩ := I.list hb
    have l1 := r1.length
    have l2 := r2.length
    have l3 := Paired.length pa
    have l4 := Paired.length pb
    have eqd : decide (Dt.l ds = Dt.l es) = decide (ds = es) := by
     rw [Bool.eq_iff_iff, decide_eq_true_eq, decide_eq_true_eq]
     exact ⟨fun q => Dt.l.inj q, fun q => by rw [q]⟩
    rw [eqd]
    by_cases hl : its.length = its2.length
    ·have key := SeqAt.RcNeAt.lists (e := fun j => decide (ds[j]? = es[j]?)) p.isList p2.isList (by simpa using hl) hu' (dn_items (n := n) r1 r2 pa pb fun x y u v d e rx ry h1 h2 =>
      (dn_rc (max m k) (A := X.A.in1) I (by show X.A.units + 1 + max m k < cLine; omega) rx ry (h1.up (Nat.le_max_left _ _)) (h2.up (Nat.le_max_right _ _))).1)
     rw [all_items (by rw [List.size_toArray]; omega) (by omega)] at key
     exact key
    ·have hne : ds ≠ es := fun q => hl (by rw [q] at l3; omega)
     rw [decide_eq_false hne]
     exact SeqAt.RcNeAt.lists_lengths p.isList p2.isList (size_ne hl) hu'
   ·cases e2
    obtain ⟨its2, r2, p2, _⟩ := I.tuple hb
    rw [decide_eq_false (fun z => nomatch z)]
    exact SeqAt.RcNeAt.list_tuple p.isList p2 hu'
  ·cases e1
   obtain ⟨its, r1, p, hz⟩ := I.tuple ha
   rcases he.cases with hy' | ⟨k, hk, b', ys, es, e2, rfl, hb, pb⟩ | ⟨k, hk, b', ys, es, e2, rfl, hb, pb⟩
   ·rcases hy' with ⟨z, _⟩ | ⟨i, z, _⟩ | ⟨i, z, _⟩ | ⟨i, z, _⟩ <;> cases z
   ·cases e2
    obtain ⟨its2, r2, p2, _⟩ := I.list hb
    rw [decide_eq_false (fun z => nomatch z)]
    exact SeqAt.RcNeAt.tuple_list p p2.isList hu'
   ·cases e2
    obtain ⟨its2, r2, p2, hz2⟩ := I.tuple hb
    have l1 := r1.length
    have l2 := r2.length
    have l3 := Paired.length pa
    have l4 := Paired.length pb
    have eqd : decide (Dt.t ds = Dt.t es) = decide (ds = es) := by
     rw [Bool.eq_iff_iff, decide_eq_true_eq, decide_eq_true_eq]
     exact ⟨fun q => Dt.t.inj q, fun q => by rw [q]⟩
    rw [eqd]
    have key := SeqAt.RcNeAt.tuples (e := fun j => decide (ds[j]? = es[j]?)) p p2 hu' (dn_items (n := n) r1 r2 pa pb fun x y u v d e rx ry h1 h2 =>
      (dn_rc (max m k) (A := X.A.in1) I (by show X.A.units + 1 + max m k < cLine; omega) rx ry (h1.up (Nat.le_max_left _ _)) (h2.up (Nat.le_max_right _ _))).1)
    by_cases hl : its.length = its2.length
    ·rw [show min its.toArray.size its2.toArray.size = ds.length by rw [List.size_toArray, List.size_toArray]; omega, all_items rfl (by omega), show (its.toArray.size == its2.toArray.size) = true by rw [List.size_toArray, List.size_toArray, beq_iff_eq]; exact hl, Bool.and_true] at key
     exact key
    ·have hne : ds ≠ es := fun q => hl (by rw [q] at l3; omega)
     rw [decide_eq_false hne]
     rw [show (its.toArray.size == its2.toArray.size) = false by rw [List.size_toArray, List.size_toArray, beq_eq_false_iff_ne]; exact hl, Bool.and_false] at key
     exact key
 ·exact op_ne pins s σ H _ _ v u Q I rx ry ⟨h.1, by simpa using h.2⟩
end
section
variable {K : PySem.W.Frag} {H : Hp} {Q : VK}
theorem op_eqXK {X : Cx} (K : PySem.W.Frag) (h : X.K = K) (hu : X.A.units + 64 < cLine) : OpR X (compareOp .Eq) (rEqX K false) := h ▸ op_eqX hu
theorem op_neXK {X : Cx} (K : PySem.W.Frag) (h : X.K = K) (hu : X.A.units + 64 < cLine) : OpR X (compareOp .NotEq) (rEqX K true) := h ▸ op_neX hu
theorem rEqX_int {i j : Int} : rEqX K false (.int i) (.int j) H Q = Q (.bl (decide (i = j))) H := by
 show (scal (.int i) (.int j) = true ∧ Q (.bl (if false = true then _ else decide (V.int i = V.int j))) H) = _
 rw [if_neg Bool.false_ne_true]
 exact rEq_int
theorem rNeX_int {i j : Int} : rEqX K true (.int i) (.int j) H Q = Q (.bl (!decide (i = j))) H := by
 show (scal (.int i) (.int j) = true ∧ Q (.bl (if true = true then !decide (V.int i = V.int j) else _)) H) = _
 rw [if_pos rfl]
 exact rNe_int
theorem rEqX_str {i j : Str} : rEqX K false (.str i) (.str j) H Q = Q (.bl (decide (i = j))) H := by
 show (scal (.str i) (.str j) = true ∧ Q (.bl (if false = true then _ else decide (V.str i = V.str j))) H) = _
 rw [if_neg Bool.false_ne_true]
 exact rEq_str
theorem rNeX_str {i j : Str} : rEqX K true (.str i) (.str j) H Q = Q (.bl (!decide (i = j))) H := by
 show (scal (.str i) (.str j) = true ∧ Q (.bl (if true = true then !decide (V.str i = V.str j) else _)) H) = _
 rw [if_pos rfl]
 exact rNe_str
theorem rEqX_bl {i j : Bool} : rEqX K false (.bl i) (.bl j) H Q = Q (.bl (decide (i = j))) H := by
 show (scal (.bl i) (.bl j) = true ∧ Q (.bl (if false = true then _ else decide (V.bl i = V.bl j))) H) = _
 rw [if_neg Bool.false_ne_true]
 exact rEq_bl
theorem rNeX_bl {i j : Bool} : rEqX K true (.bl i) (.bl j) H Q = Q (.bl (!decide (i = j))) H := by
 show (scal (.bl i) (.bl j) = true ∧ Q (.bl (if true = true then !decide (V.bl i = V.bl j) else _)) H) = _
 rw [if_pos rfl]
 exact rNe_bl
theorem dn_int {n : Nat} {i : Int} : Dn K H n (.int i) (.int i) := Dn.up (n := 0) (.inr (.inl ⟨i, rfl, rfl⟩)) (Nat.zero_le _)
theorem dn_str {n : Nat} {z : Str} : Dn K H n (.str z) (.str z) := Dn.up (n := 0) (.inr (.inr (.inl ⟨z, rfl, rfl⟩))) (Nat.zero_le _)
theorem dn_lst {n : Nat} {a : Addr} {xs : List V} {ds : List Dt} (h : H a = some (.lst xs)) (p : Paired (Dn K H n) xs ds) : Dn K H (n + 1) (.ref a) (.l ds) := .inr (.inl ⟨a, xs, ds, rfl, rfl, SqL.of h, p⟩)
theorem dn_tup {n : Nat} {a : Addr} {xs : List V} {ds : List Dt} (h : H a = some (.tup xs)) (p : Paired (Dn K H n) xs ds) : Dn K H (n + 1) (.ref a) (.t ds) := .inr (.inr ⟨a, xs, ds, rfl, rfl, SqT.of h, p⟩)
end
end L2
set_option maxRecDepth 100000
set_option maxHeartbeats 1000000
namespace L2
open PySem PySem.Spec PyProof.Rows
theorem pg_lst {X : Cx} {es : List Expr} {pos : Pos} {k : Nat} {t : TGs} {n : Nat} {a : Addr} {xs : List V} (hc : X.calm = true) (h : PGs X es t) (hn : es.length = n) (hst : es.any isStar = false)
  {pins : List (Addr × Obj)} {s : Shared} {σ : St} {H : Hp} {Q : St → Hp → Prop} (I : Inv X pins σ H s) (hq : SqL X.K H a xs) (hl : xs.length = n) (hw : t xs σ H Q) :
  wpAny (model X.prog X.w) X.A (assign (.Tuple es k pos) X.env (.ref a)) (fun _ s' => ∃ σ' H', Inv X pins σ' H' s' ∧ Q σ' H') X.xe s := by
 obtain ⟨its, rv, hp, hz⟩ := I.list hq
 rw [arm_assign_Tuple]
 refine wpAny_bind (wpAny_standAt ?_)
 unfold unpack
 rw [show (assignEach es X.env).length = its.toArray.size by rw [assignEach_len, hn, ← hl, List.size_toArray, rv.length], assignEach_nostar hst]
 refine wpAny_bind (wpAny_holding (PySem.W.kun_itemsOf (I.ok.hd hc) hp.isList fun h' hx => ?_))
 have I1 : Inv X pins σ H { s with heap := h' } := I.kept (t' := s.toks) fun b o e => hx b o (Nat.ne_of_lt (Heap.lt_size e)) e
 exact h pins _ σ H xs _ Q I1 (by simpa using rv) hw
noncomputable def gOx (K : PySem.W.Frag) (n : Nat) (t : TGs) (a : Addr) (σ : St) (H : Hp) (Q : St → Hp → Prop) : Option HO → Prop
 | some (.tup xs) => xs.length = n ∧ t xs σ H Q
 | some (.lst xs) => xs.length = n ∧ t xs σ H Q
 | _ => ∃ xs, SqT K H a xs ∧ xs.length = n ∧ t xs σ H Q
noncomputable def gTupX (K : PySem.W.Frag) (n : Nat) (t : TGs) : TG := fun v σ H Q => match v with
 | .ref a => gOx K n t a σ H Q (H a)
 | _ => False
theorem gTupX_ref {K : PySem.W.Frag} {n : Nat} {t : TGs} {a : Addr} {σ : St} {H : Hp} {Q : St → Hp → Prop} : gTupX K n t (.ref a) σ H Q = gOx K n t a σ H Q (H a) := rfl
theorem gOx_tup {K : PySem.W.Frag} {n : Nat} {t : TGs} {a : Addr} {σ : St} {H : Hp} {Q : St → Hp → Prop} {xs : List V} : gOx K n t a σ H Q (some (.tup xs)) = (xs.length = n ∧ t xs σ H Q) := rfl
theorem gOx_lst {K : PySem.W.Frag} {n : Nat} {t : TGs} {a : Addr} {σ : St} {H : Hp} {Q : St → Hp → Prop} {xs : List V} : gOx K n t a σ H Q (some (.lst xs)) = (xs.length = n ∧ t xs σ H Q) := rfl
theorem pg_tupX {X : Cx} {es : List Expr} {pos : Pos} (K : PySem.W.Frag) {j n : Nat} {u : TGs} (hK : X.K = K) (hc : X.calm = true) (hh : PGs X es u) (hn : es.length = n := by rfl) (h : es.any isStar = false := by rfl) : PG X (.Tuple es j pos) (gTupX K n u) := by
 intro pins s σ H v w Q I r q
 unfold gTupX at q
 split at q
 ·rename_i a
  unfold gOx at q
  split at q
  ·rename_i xs e; exact pg_tupQ K (j := j) hK hc hh hn h pins s σ H _ w Q I r ⟨a, xs, rfl, SqT.of e, q⟩
  ·rename_i xs e
   obtain rfl : w = Value.ref a := r
   exact pg_lst hc hh hn h I (SqL.of e) q.1 q.2
  ·obtain ⟨xs, h1, h2⟩ := q; exact pg_tupQ K (j := j) hK hc hh hn h pins s σ H _ w Q I r ⟨a, xs, rfl, h1, h2⟩
 ·exact q.elim
end L2
set_option maxRecDepth 100000
set_option maxHeartbeats 1000000
namespace L2
open PySem PySem.Spec PyProof.Rows
structure QA (X : Cx) (es : List Expr) (t : TA) : Prop where
 h : PA X es t
section
variable {X : Cx}
theorem qa_nil : QA X [] tNil := ⟨pa_nil⟩
theorem qa_q {e : Expr} {es : List Expr} {te : TE} {t : TA} (ha : QE X e te) (hr : QA X es t) (h : isStar e = false := by rfl) : QA X (e :: es) (tCons te t) := ⟨pa_q ha.h hr.h h⟩
theorem qe_tup {es : List Expr} {t : TA} {k : Nat} {pos : Pos} (h : QA X es t) : QE X (.Tuple es k pos) (tTup t) := ⟨pe_tup h.h⟩
theorem qe_lst {es : List Expr} {t : TA} {pos : Pos} (h : QA X es t) : QE X (.List es pos) (tLst t) := ⟨pe_lst h.h⟩
theorem qs_if {e : Expr} {t : TT} {a b : List Stmt} {ta tb : TS} {pos : Pos} (h : PT X e t) (ha : QSs X a ta) (hb : QSs X b tb) : QS X (.If e a b pos) (tIfS t ta tb) := ⟨ps_if h ha.h hb.h⟩
theorem qss_nil : QSs X [] tNext := ⟨pss_nil⟩
end
end L2
namespace FairM
noncomputable def W (ws : List Bool) (k : Nat) : Bool := ws.getD (k % ws.length) false
noncomputable def idx (ws : List Bool) : List Nat := (List.range ws.length).filter fun k => ws.getD k false
noncomputable def ltr (ws : List Bool) : List Nat := (idx ws).tail ++ [(idx ws).headD 0 + ws.length]
noncomputable def gaps (ws : List Bool) : List Int := List.zipWith (fun a b : Nat => (b : Int) - (a : Int)) (idx ws) (ltr ws)
noncomputable def noneW (ws : List Bool) (s n : Nat) : Bool := (List.range n).all fun j => !W ws (s + j)
theorem idx_mem {ws : List Bool} {k : Nat} : k ∈ idx ws ↔ k < ws.length ∧ ws.getD k false = true := by
 unfold idx
 rw [List.mem_filter, List.mem_range]
theorem idx_lt {ws : List Bool} {i j : Nat} {a b : Nat} (hi : (idx ws)[i]? = some a) (hj : (idx ws)[j]? = some b) (h : i < j) : a < b := by
 have hp : (idx ws).Pairwise (· < ·) := (List.pairwise_lt_range (n := ws.length)).filter _
 obtain ⟨h1, rfl⟩ := List.getElem?_eq_some_iff.mp hi
 obtain ⟨h2, rfl⟩ := List.getElem?_eq_some_iff.mp hj
 exact List.pairwise_iff_getElem.mp hp i j h1 h2 h
theorem ltr_len {ws : List Bool} (h : idx ws ≠ []) : (ltr ws).length = (idx ws).length := by
 unfold ltr
 rw [List.length_append, List.length_tail, List.length_singleton]
 have := List.length_pos_iff.mpr h
 omega
theorem ltr_in {ws : List Bool} {j : Nat} (h : j + 1 < (idx ws).length) : (ltr ws)[j]? = (idx ws)[j + 1]? := by
 unfold ltr
 rw [List.getElem?_append_left (by rw [List.length_tail]; omega), List.getElem?_tail]
theorem ltr_last {ws : List Bool} {j : Nat} (h : j + 1 = (idx ws).length) : (ltr ws)[j]? = some ((idx ws).headD 0 + ws.length) := by
 unfold ltr
 rw [List.getElem?_append_right (by rw [List.length_tail]; omega), List.length_tail]
 have : j - ((idx ws).length - 1) = 0 := by omega
 rw [this]
 rfl
theorem head_get {ws : List Bool} (h : idx ws ≠ []) : (idx ws)[0]? = some ((idx ws).headD 0) := by
 cases e : idx ws with
 | nil => exact absurd e h
 | cons a l => rfl
theorem W_idx {ws : List Bool} {i a : Nat} (h : (idx ws)[i]? = some a) : a < ws.length ∧ W ws a = true ∧ W ws (a + ws.length) = true := by
 obtain ⟨h1, h2⟩ := idx_mem.mp (List.mem_of_getElem? h)
 unfold W
 rw [Nat.add_mod_right, Nat.mod_eq_of_lt h1]
 exact ⟨h1, h2, h2⟩
structure Nx (ws : List Bool) (j a b : Nat) : Prop where
 ha : (idx ws)[j]? = some a
 hb : (ltr ws)[j]? = some b
theorem Nx.lt {ws : List Bool} {j a b : Nat} (h : Nx ws j a b) : a < b ∧ b ≤ a + ws.length ∧ W ws b = true := by
 have hne : idx ws ≠ [] := fun e => by have := h.ha; rw [e] at this; cases this
 obtain ⟨hj, _⟩ := List.getElem?_eq_some_iff.mp h.ha
 obtain ⟨a1, a2, a3⟩ := W_idx h.ha
 by_cases c : j + 1 < (idx ws).length
 ·have hb := h.hb
  rw [ltr_in c] at hb
  obtain ⟨b1, b2, _⟩ := W_idx hb
  have := idx_lt h.ha hb (Nat.lt_succ_self _)
  exact ⟨this, by omega, b2⟩
 ·have hb := h.hb
  rw [ltr_last (by omega)] at hb
  injection hb with hb
  have h0 := head_get hne
  obtain ⟨b1, b2, b3⟩ := W_idx h0
  have h3 : (idx ws).headD 0 ≤ a := by
   by_cases c0 : j = 0
   ·subst c0
    have h5 := h.ha
    rw [h0] at h5
    injection h5 with h5
    omega
   ·exact Nat.le_of_lt (idx_lt h0 h.ha (by omega))
  rw [← hb]
  exact ⟨by omega, by omega, b3⟩
theorem Nx.none {ws : List Bool} {j a b k : Nat} (h : Nx ws j a b) (h1 : a < k) (h2 : k < b) : W ws k = false := by
 have hne : idx ws ≠ [] := fun e => by have := h.ha; rw [e] at this; cases this
 obtain ⟨hj, _⟩ := List.getElem?_eq_some_iff.mp h.ha
 obtain ⟨a1, a2, a3⟩ := W_idx h.ha
 cases e : W ws k with
 | false => rfl
 | true =>
  exfalso
  have hn : 0 < ws.length := by omega
  have hk : k % ws.length ∈ idx ws := idx_mem.mpr ⟨Nat.mod_lt _ hn, e⟩
  obtain ⟨t, ht, et⟩ := List.mem_iff_getElem.mp hk
  have gt : (idx ws)[t]? = some (k % ws.length) := by rw [List.getElem?_eq_getElem ht, et]
  obtain ⟨_, le, _⟩ := h.lt
  by_cases ck : k < ws.length
  ·rw [Nat.mod_eq_of_lt ck] at gt
   have jt : j < t := by
    rcases Nat.lt_trichotomy j t with q | q | q
    ·exact q
    ·subst q; rw [h.ha] at gt; injection gt with gt; omega
    ·have := idx_lt gt h.ha q; omega
   have hb := h.hb
   rw [ltr_in (by omega)] at hb
   by_cases q : j + 1 = t
   ·rw [q, gt] at hb; injection hb with hb; omega
   ·have := idx_lt hb gt (by omega); omega
  ·have lst : j + 1 = (idx ws).length := by
    by_cases q : j + 1 < (idx ws).length
    ·have hb := h.hb
     rw [ltr_in q] at hb
     have := (W_idx hb).1
     omega
    ·omega
   have hb := h.hb
   rw [ltr_last lst] at hb
   injection hb with hb
   have h0 := head_get hne
   have b1 := (W_idx h0).1
   have em : k % ws.length = k - ws.length := by
    rw [Nat.mod_eq_sub_mod (by omega), Nat.mod_eq_of_lt (by omega)]
   rw [em] at gt
   by_cases q : t = 0
   ·subst q; rw [h0] at gt; injection gt with gt; omega
   ·have := idx_lt h0 gt (by omega); omega
theorem gaps_mem {ws : List Bool} {g : Int} (h : g ∈ gaps ws) : ∃ j a b, Nx ws j a b ∧ g = (b : Int) - (a : Int) := by
 unfold gaps at h
 obtain ⟨j, hj, e⟩ := List.mem_iff_getElem.mp h
 rw [List.length_zipWith] at hj
 refine ⟨j, (idx ws)[j]'(by omega), (ltr ws)[j]'(by omega), ⟨List.getElem?_eq_getElem _, List.getElem?_eq_getElem _⟩, ?_⟩
 rw [← e, List.getElem_zipWith]
theorem mem_gaps {ws : List Bool} {j a b : Nat} (h : Nx ws j a b) : (b : Int) - (a : Int) ∈ gaps ws := by
 unfold gaps
 obtain ⟨h1, e1⟩ := List.getElem?_eq_some_iff.mp h.ha
 obtain ⟨h2, e2⟩ := List.getElem?_eq_some_iff.mp h.hb
 refine List.mem_iff_getElem.mpr ⟨j, by rw [List.length_zipWith]; omega, ?_⟩
 rw [List.getElem_zipWith, e1, e2]
theorem nx_of {ws : List Bool} {j : Nat} (h : j < (idx ws).length) : ∃ a b, Nx ws j a b := by
 have hne : idx ws ≠ [] := fun e => by rw [e] at h; simp at h
 exact ⟨_, _, List.getElem?_eq_getElem h, List.getElem?_eq_getElem (by rw [ltr_len hne]; exact h)⟩
theorem none_f {ws : List Bool} {s n k : Nat} (h1 : s ≤ k) (h2 : k < s + n) (h : W ws k = true) : noneW ws s n = false := by
 cases e : noneW ws s n with
 | false => rfl
 | true =>
  unfold noneW at e
  have := List.all_eq_true.mp e (k - s) (List.mem_range.mpr (by omega))
  rw [show s + (k - s) = k by omega, h] at this
  cases this
theorem none_t {ws : List Bool} {s n : Nat} (h : ∀ k, s ≤ k → k < s + n → W ws k = false) : noneW ws s n = true := by
 unfold noneW
 refine List.all_eq_true.mpr fun j hj => ?_
 rw [h (s + j) (by omega) (by have := List.mem_range.mp hj; omega)]
 rfl
theorem idx_nil {ws : List Bool} : idx ws = [] ↔ noneW ws 0 ws.length = true := by
 constructor
 ·intro h
  refine none_t fun k _ hk => ?_
  have hk' : k < ws.length := by omega
  cases e : W ws k with
  | false => rfl
  | true =>
   unfold W at e
   rw [Nat.mod_eq_of_lt hk'] at e
   have := idx_mem.mpr ⟨hk', e⟩
   rw [h] at this
   cases this
 ·intro h
  cases e : idx ws with
  | nil => rfl
  | cons a l =>
   have := W_idx (i := 0) (a := a) (by rw [e]; rfl)
   rw [none_f (Nat.zero_le _) (by omega) this.2.1] at h
   cases h
theorem fair_ok {ws : List Bool} {M : Int} (hm : M ∈ gaps ws) (hle : ∀ a ∈ gaps ws, a ≤ M) : 1 ≤ M ∧ M ≤ ws.length ∧ (∀ s, s < ws.length → noneW ws s M.toNat = false) ∧ ∃ s, s < ws.length ∧ noneW ws s (M - 1).toNat = true := by
 obtain ⟨j, a, b, hx, rfl⟩ := gaps_mem hm
 obtain ⟨l1, l2, l3⟩ := hx.lt
 obtain ⟨hj, _⟩ := List.getElem?_eq_some_iff.mp hx.ha
 have hne : idx ws ≠ [] := fun e => by rw [e] at hj; simp at hj
 have h0 := head_get hne
 have a1 := (W_idx hx.ha).1
 obtain ⟨z1, z2, _⟩ := W_idx h0
 refine ⟨by omega, by omega, fun s hs => ?_, ?_⟩
 ·by_cases c : s ≤ (idx ws).headD 0
  ·obtain ⟨a', b', hy⟩ := nx_of (ws := ws) (j := (idx ws).length - 1) (by omega)
   have hb := hy.hb
   rw [ltr_last (by omega)] at hb
   injection hb with hb
   have := hle _ (mem_gaps hy)
   have := (W_idx hy.ha).1
   exact none_f c (by omega) z2
  ·obtain ⟨t, a', b', hy, q1, q2⟩ : ∃ t a' b', Nx ws t a' b' ∧ a' < s ∧ s ≤ b' := by
    refine Classical.byContradiction fun hno => ?_
    have all : ∀ t : Nat, ∃ a' : Nat, (idx ws)[t]? = some a' ∧ a' < s := by
     intro t
     induction t with
     | zero => exact ⟨_, h0, by omega⟩
     | succ t ih =>
      obtain ⟨a', e1, e2⟩ := ih
      obtain ⟨ht, _⟩ := List.getElem?_eq_some_iff.mp e1
      obtain ⟨a'', b'', hy⟩ := nx_of ht
      have ea : a'' = a' := by have := hy.ha; rw [e1] at this; injection this with this; exact this.symm
      subst ea
      have nb : ¬ s ≤ b'' := fun q => hno ⟨t, a'', b'', hy, e2, q⟩
      by_cases c2 : t + 1 < (idx ws).length
      ·have hb := hy.hb
       rw [ltr_in c2] at hb
       exact ⟨b'', hb, by omega⟩
      ·have hb := hy.hb
       rw [ltr_last (by omega)] at hb
       injection hb with hb
       omega
    obtain ⟨a', e1, _⟩ := all (idx ws).length
    obtain ⟨ht, _⟩ := List.getElem?_eq_some_iff.mp e1
    omega
   have := hle _ (mem_gaps hy)
   exact none_f q2 (by omega) hy.lt.2.2
 ·have hn : 0 < ws.length := by omega
  refine ⟨(a + 1) % ws.length, Nat.mod_lt _ hn, none_t fun k k1 k2 => ?_⟩
  obtain ⟨d, rfl⟩ : ∃ d, k = (a + 1) % ws.length + d := ⟨k - (a + 1) % ws.length, by omega⟩
  have e : W ws ((a + 1) % ws.length + d) = W ws (a + 1 + d) := by
   unfold W
   rw [Nat.mod_add_mod]
  rw [e]
  exact hx.none (by omega) (by omega)
end FairM
set_option maxRecDepth 100000
set_option maxHeartbeats 1000000
namespace L2
open PySem PySem.Spec PyProof.Rows
noncomputable def rFindS : V → List V → Hp → VK → Prop := fun x vs H Q => match x, vs with
 | .str z, [.str y] => Q (.int (match Builtin.Str.occurrences z y 0 z.length 1 with | i :: _ => (i : Int) | [] => -1)) H
 | _, _ => False
noncomputable def rIndexS : V → List V → Hp → VK → Prop := fun x vs H Q => match x, vs with
 | .str z, [.str y] => ∃ i r, Builtin.Str.occurrences z y 0 z.length 1 = i :: r ∧ Q (.int (i : Nat)) H
 | _, _ => False
noncomputable def ljS (z : Str) (i : Int) : Str := if i ≤ z.length then z else Builtin.Str.padded z 0 (i.toNat - z.length) 32
noncomputable def rLjust : V → List V → Hp → VK → Prop := fun x vs H Q => match x, vs with
 | .str z, [.int i] => (0 ≤ i ∧ i ≤ 1000) ∧ (ljS z i).length ≤ sizeLine ∧ Q (.str (ljS z i)) H
 | _, _ => False
section
variable {X : Cx}
end
noncomputable def idxAt (ss : List Str) (y : Str) (j : Nat) : Prop := ss[j]? = some y ∧ ∀ m, m < j → ss[m]? ≠ some y
noncomputable def rIndexT (K : PySem.W.Frag) : V → List V → Hp → VK → Prop := fun x vs H Q => match x, vs with
 | .ref p, [.str y] => ∃ ss : List Str, SqT K H p (ss.map V.str) ∧ ∃ j, idxAt ss y j ∧ Q (.int (j : Nat)) H
 | _, _ => False
noncomputable def rIndexL (K : PySem.W.Frag) : V → List V → Hp → VK → Prop := fun x vs H Q => match x, vs with
 | .ref p, [.str y] => ∃ ss : List Str, SqL K H p (ss.map V.str) ∧ ∃ j, idxAt ss y j ∧ Q (.int (j : Nat)) H
 | _, _ => False
section
variable {X : Cx}
end
noncomputable def rJoin (K : PySem.W.Frag) : V → List V → Hp → VK → Prop := fun x vs H Q => match x, vs with
 | .str z, [.ref p] => ∃ ss : List Str, SqL K H p (ss.map V.str) ∧ (ss.map (·.length)).sum + ss.length * z.length ≤ 1000000 ∧ Q (.str (Txt.join z ss)) H
 | _, _ => False
noncomputable def kit2 : Option Bool → Option Bool → Option Bool
 | some true, _ => some true
 | some false, o => o
 | none, _ => none
theorem kit2_t {o : Option Bool} : kit2 (some true) o = some true := rfl
theorem kit2_f {o : Option Bool} : kit2 (some false) o = o := rfl
theorem kitAny_2 {K : PySem.W.Frag} {t c d : Value} : PySem.W.kitAny K t [c, d] = kit2 (PySem.W.kitOne K t c) (PySem.W.kitOne K t d) := by
 unfold PySem.W.kitAny PySem.W.kitAny PySem.W.kitAny
 cases PySem.W.kitOne K t c with
 | none => rfl
 | some b =>
  cases b
  ·cases PySem.W.kitOne K t d with
   | none => rfl
   | some b => cases b <;> rfl
  ·rfl
noncomputable def isiTO (N : Addr → Addr → Prop) : Option HO → Prop
 | some (.tup [.ref C, .ref D]) => N C D
 | _ => False
theorem isiTO_2 {N : Addr → Addr → Prop} {C D : Addr} : isiTO N (some (.tup [.ref C, .ref D])) = N C D := rfl
noncomputable def rIsiX2 (K : PySem.W.Frag) : List V → Hp → VK → Prop := fun xs H Q => match xs with
 | [.ref p, .ref t] => ∃ D dx, H p = some (.ext (exF p (.ref D) dx)) ∧ XgAt K D ∧ xdOk H dx ∧ isiTO (fun C1 C2 => isbO (PySem.W.kitAny K (.ref D) [.ref C1, .ref C2]) fun b => Q (.bl b) H) (H t)
 | _ => False
theorem rIsiX2_ref {K : PySem.W.Frag} {p t : Addr} {H : Hp} {Q : VK} : rIsiX2 K [.ref p, .ref t] H Q = ∃ D dx, H p = some (.ext (exF p (.ref D) dx)) ∧ XgAt K D ∧ xdOk H dx ∧ isiTO (fun C1 C2 => isbO (PySem.W.kitAny K (.ref D) [.ref C1, .ref C2]) fun b => Q (.bl b) H) (H t) := rfl
section
variable {X : Cx} {e : Expr} {f : Str} {ta : TE} {pos : Pos}
noncomputable def rFldXA (K : PySem.W.Frag) (f : Str) (x : V) (H : Hp) (Q : VK) : Prop := ∃ a, x = .ref a ∧ ∃ C dx, H a = some (.ext (exF a (.ref C) dx)) ∧ XgAt K C ∧ XfAt K C f ∧ ∃ d, dx = some d ∧ ∃ fs, H d = some (.xd fs) ∧ ∃ v, fs.lookup f = some v ∧ Q v H
noncomputable def tFldXA (K : PySem.W.Frag) (f : Str) (ta : TE) : TE := fun σ H Q => ta σ H fun x H1 => rFldXA K f x H1 Q
theorem rFldXA_ref {K : PySem.W.Frag} {a : Addr} {f : Str} {H : Hp} {Q : VK} : rFldXA K f (.ref a) H Q = ∃ C dx, H a = some (.ext (exF a (.ref C) dx)) ∧ XgAt K C ∧ XfAt K C f ∧ ∃ d, dx = some d ∧ ∃ fs, H d = some (.xd fs) ∧ ∃ v, fs.lookup f = some v ∧ Q v H := by
 apply propext; unfold rFldXA; constructor
 ·rintro ⟨b, e, h⟩; cases e; exact h
 ·exact fun h => ⟨a, rfl, h⟩
theorem ex_sd {d : Addr} {N : Addr → Prop} : (∃ x, some d = some x ∧ N x) = N d := by
 apply propext; constructor
 ·rintro ⟨x, e, h⟩; cases e; exact h
 ·exact fun h => ⟨d, rfl, h⟩
end
section
variable {K : PySem.W.Frag} {H : Hp} {Q : VK} {z y : Str} {p : Addr} {i : Int}
theorem rFindS_str : rFindS (.str z) [.str y] H Q = Q (.int (match Builtin.Str.occurrences z y 0 z.length 1 with | i :: _ => (i : Int) | [] => -1)) H := rfl
theorem rIndexS_str : rIndexS (.str z) [.str y] H Q = ∃ i r, Builtin.Str.occurrences z y 0 z.length 1 = i :: r ∧ Q (.int (i : Nat)) H := rfl
theorem rLjust_str : rLjust (.str z) [.int i] H Q = ((0 ≤ i ∧ i ≤ 1000) ∧ (ljS z i).length ≤ sizeLine ∧ Q (.str (ljS z i)) H) := rfl
theorem rIndexT_ref : rIndexT K (.ref p) [.str y] H Q = ∃ ss : List Str, SqT K H p (ss.map V.str) ∧ ∃ j, idxAt ss y j ∧ Q (.int (j : Nat)) H := rfl
theorem rIndexL_ref : rIndexL K (.ref p) [.str y] H Q = ∃ ss : List Str, SqL K H p (ss.map V.str) ∧ ∃ j, idxAt ss y j ∧ Q (.int (j : Nat)) H := rfl
theorem rJoin_ref : rJoin K (.str z) [.ref p] H Q = ∃ ss : List Str, SqL K H p (ss.map V.str) ∧ (ss.map (·.length)).sum + ss.length * z.length ≤ 1000000 ∧ Q (.str (Txt.join z ss)) H := rfl
end
section
variable {X : Cx} (K : PySem.W.Frag)
end
end L2
set_option maxRecDepth 100000
set_option maxHeartbeats 1000000
namespace L2
open PySem PySem.Spec PyProof.Rows
section
variable {K : PySem.W.Frag} {g : TG} {tb : TS} {D : Ends} {σ : St} {H : Hp}
end
end L2
set_option maxRecDepth 100000
set_option maxHeartbeats 1000000
namespace L2
open PySem PySem.Spec PyProof.Rows
section
variable {K : PySem.W.Frag} {g : TG} {tb : TS} {D : Ends} {σ : St} {H : Hp} {ta : TA}
end
section
variable {X : Cx} {K : PySem.W.Frag}
end
end L2
set_option maxRecDepth 100000
set_option maxHeartbeats 1000000
namespace L2
open PySem PySem.Spec PyProof.Rows
section
variable {X : Cx} {CX : CXT} {C : Addr} {x m : Str} {p pos apos : Pos} {o : Expr} {ta : TE} {k n : Nat} {sp : Sp} {E : XK}
end
section
variable {prog : Program} {w : World} {A : Around} {s : Shared} {K : PySem.W.Frag} {x C R dx : Addr} {cd : ClassData} {name : Str} {v : Value}
end
section
variable {X : Cx} {pins : List (Addr × Obj)} {σ : St} {H : Hp} {s : Shared} {h' : Heap} {dx : Addr}
end
section
variable {X : Cx} {E : XK}
end
section
variable {X : Cx} {a b : Expr} {ta tb : TE} {op : Operator} {r : R2} {pos : Pos}
end
end L2
set_option maxRecDepth 100000
set_option maxHeartbeats 1000000
namespace L2
open PySem PySem.Spec PyProof.Rows
section
variable {X : Cx}
end
section
variable {X : Cx} {CX : CXT} {m : Str} {pos apos : Pos} {o : Expr} {ta : TE} {k n : Nat} {sp : Sp} {E : XK} {σ0 : St}
end
end L2
set_option maxRecDepth 100000
set_option maxHeartbeats 1000000
namespace L2
open PySem PySem.Spec PyProof.Rows
section
variable {X : Cx} {CX : CXT} {C : Addr} {m x : Str} {pos apos : Pos} {o : Expr} {ta : TE} {k n : Nat} {ps : List Str} {sp : Sp} {E : XK} {σ0 : St}
end
end L2
set_option maxRecDepth 100000
set_option maxHeartbeats 1000000
namespace L2
open PySem PySem.Spec PyProof.Rows
section
variable {prog : Program} {w : World} {A : Around} {R : Result → Shared → Prop} {I : Addr} {fp wr : List Addr} {n : Nat} {P : Nat → Value → Prop} {St : Nat → Heap → Prop}
theorem mx_name : (toString "max" ++ toString ".loop" : String) = "max.loop" := by decide
theorem mxD_more (d : Value) (W : Walks prog w A.in1 I fp wr n P St) (bt : Nat → Nat → Bool) (hcmp : CmpOf prog w A.in1 .Gt P bt) (S : Addr) (hSf : S ∉ fp) (k : Nat) :
  ∀ (j : Nat) (s : Shared) (best : Value) (c : Nat), n = j + 1 + k → St (j + 1) s.heap → P (argBest bt j) best → s.heap.get? S = some ⟨.type "list", none, .seq #[best, best] c, #[]⟩ →
  (∀ v h' tk, P (argBest bt (n - 1)) v → (∀ b o, b ∉ wr → b ≠ S → s.heap.get? b = some o → h'.get? b = some o) → R (.ok (.ret v)) { s with heap := h', toks := tk }) →
  codeAny (model prog w) A (.builtin "max.loop" ⟨[.ref I, .none, .ref S], [("default", d)]⟩) R s := by
 have hSw : S ∉ wr := fun h => hSf (W.sub _ h)
 induction k with
 | zero =>
  intro j s best c hn hst hb hS hR
  subst hn
  refine codeAny_builtin F.entry_max_loop ?_
  rw [Around.under_plainId F.plain_max_loop _]
  refine wpAny_bind (m := seqItems? (.ref S)) (wpAny_seqItems hS rfl ?_)
  refine wpAny_bind (wpAny_tryCatch (W.done s _ _ hst fun h' tk hk' => ?_))
  refine wpAny_bind (m := updateSeq S fun _ => #[]) (wpAny_updateSeq (hk' S _ hSw hS) rfl (wpAny_bind (wpAny_letGo (wpAny_pure ?_))))
  exact hR best _ tk hb fun b o hbw hbS e => (Heap.get?_update_other _ _ (Ne.symm hbS)).trans (hk' b o hbw e)
 | succ k ih =>
  intro j s best c hn hst hb hS hR
  refine codeAny_builtin F.entry_max_loop ?_
  rw [Around.under_plainId F.plain_max_loop _]
  refine wpAny_bind (m := seqItems? (.ref S)) (wpAny_seqItems hS rfl ?_)
  refine wpAny_bind (wpAny_tryCatch (W.item (j + 1) s _ _ (by omega) hst fun v h' tk hP hst' hk' => ?_))
  have hS' := hk' S _ hSw hS
  refine wpAny_bind (wpAny_pure ?_)
  refine wpAny_bind (wpAny_tryCatch (wpAny_holding (wpAny_bind (m := richCompare .Gt v best) (hcmp (j + 1) (argBest bt j) v best _ _ _ hP hb ?_))))
  refine wpAny_bind (wpAny_holding (wpAny_truthy_bool ?_))
  refine wpAny_bind (wpAny_letGo (wpAny_pure ?_))
  cases e : bt (j + 1) (argBest bt j) with
  | true =>
   rw [if_pos rfl]
   refine wpAny_bind (wpAny_updateSeq hS' rfl (wpAny_bind (wpAny_letGo ?_)))
   rw [mx_name]
   refine wpAny_pure ⟨plainId_quiet F.plain_max_loop _, ih (j + 1) _ v _ (by omega) (W.frame _ _ _ hst' fun b hbf o q => ?_) (by rw [argBest, e, if_pos rfl]; exact hP) (Heap.get?_update_self _ hS' rfl) fun v' h2 tk2 hP' hk2 => ?_⟩
   ·exact (Heap.get?_update_other _ _ (fun z : S = b => hSf (by rw [z]; exact hbf))).trans q
   ·exact hR v' h2 tk2 hP' fun b o hbw hbS q => hk2 b o hbw hbS ((Heap.get?_update_other _ _ (Ne.symm hbS)).trans (hk' b o hbw q))
  | false =>
   rw [if_neg Bool.false_ne_true]
   refine wpAny_bind (wpAny_letGo ?_)
   rw [mx_name]
   refine wpAny_pure ⟨plainId_quiet F.plain_max_loop _, ih (j + 1) _ best c (by omega) hst' (by rw [argBest, e, if_neg Bool.false_ne_true]; exact hb) hS' fun v' h2 tk2 hP' hk2 => ?_⟩
   exact hR v' h2 tk2 hP' fun b o hbw hbS q => hk2 b o hbw hbS (hk' b o hbw q)
theorem mxD_first (d : Value) (W : Walks prog w A.in1 I fp wr n P St) (bt : Nat → Nat → Bool) (hcmp : CmpOf prog w A.in1 .Gt P bt) (S : Addr) (hSf : S ∉ fp) {s : Shared} {c : Nat} (hst : St 0 s.heap)
  (hS : s.heap.get? S = some ⟨.type "list", none, .seq #[] c, #[]⟩)
  (hR : ∀ v h' tk, (n = 0 ∧ v = d ∨ 0 < n ∧ P (argBest bt (n - 1)) v) → (∀ b o, b ∉ wr → b ≠ S → s.heap.get? b = some o → h'.get? b = some o) → R (.ok (.ret v)) { s with heap := h', toks := tk }) :
  codeAny (model prog w) A (.builtin "max.loop" ⟨[.ref I, .none, .ref S], [("default", d)]⟩) R s := by
 have hSw : S ∉ wr := fun h => hSf (W.sub _ h)
 refine codeAny_builtin F.entry_max_loop ?_
 rw [Around.under_plainId F.plain_max_loop _]
 refine wpAny_bind (m := seqItems? (.ref S)) (wpAny_seqItems hS rfl ?_)
 by_cases hn : n = 0
 ·subst hn
  refine wpAny_bind (wpAny_tryCatch (W.done s _ _ hst fun h' tk hk' => ?_))
  refine wpAny_bind (wpAny_rule (wpAny_pure ?_))
  exact hR d h' tk (.inl ⟨rfl, rfl⟩) fun b o hbw _ e => hk' b o hbw e
 ·refine wpAny_bind (wpAny_tryCatch (W.item 0 s _ _ (by omega) hst fun v h' tk hP hst' hk' => ?_))
  have hS' := hk' S _ hSw hS
  refine wpAny_bind (wpAny_pure ?_)
  refine wpAny_bind (m := updateSeq S fun _ => #[v, v]) (wpAny_updateSeq hS' rfl ?_)
  rw [mx_name]
  refine wpAny_pure ⟨plainId_quiet F.plain_max_loop _, mxD_more d W bt hcmp S hSf (n - 1) 0 _ v _ (by omega) (W.frame _ _ _ hst' fun b hbf o q => ?_) hP (Heap.get?_update_self _ hS' rfl) fun v' h2 tk2 hP' hk2 => ?_⟩
  ·exact (Heap.get?_update_other _ _ (fun z : S = b => hSf (by rw [z]; exact hbf))).trans q
  ·exact hR v' h2 tk2 (.inr ⟨by omega, hP'⟩) fun b o hbw hbS q => hk2 b o hbw hbS ((Heap.get?_update_other _ _ (Ne.symm hbS)).trans (hk' b o hbw q))
end
section
variable {prog : Program} {w : World} {A : Around} {E : Value → Shared → Prop} {s : Shared}
theorem mxD_args (a v : Value) : argsOk "max" ⟨[a], [(Str.ofString "default", v)]⟩ := by unfold argsOk; kernel_rfl
theorem mxD_call {l : Addr} {xs : Array (Int × Tok)} {d : Value} {Q : Value → Shared → Prop} (hh : A.handled = none) (hl : s.heap.IsList l (intItems xs))
  (h : ∀ v h' tk, (xs.size = 0 ∧ v = d ∨ 0 < xs.size ∧ (intItems xs)[argBest (fun i j => decide (numAt xs i > numAt xs j)) (xs.size - 1)]? = some v) → (∀ b o, s.heap.get? b = some o → h'.get? b = some o) → Q v { s with heap := h', toks := tk }) :
  wpAny (model prog w) A (call (.builtin "max") [.ref l] [(Str.ofString "default", d)]) Q E s := by
 refine kmb_tree F.kind_max F.plain_max F.entry_max (mxD_args _ _) ?_
 refine wpAny_bind (wpAny_of_eq (show Builtin.Builtins.bindParams "max" ["key", "default"] 0 ⟨[], [(Str.ofString "default", d)]⟩ = pure [none, some d] from rfl) ?_)
 refine wpAny_bind (wpAny_pure ?_)
 refine wpAny_bind (iter_intList hl fun s₂ e st hfp hlI => ?_)
 subst e
 refine wpAny_bind (wpAny_newObj_type ?_)
 rw [mx_name]
 have W := Walks.list (prog := prog) (w := w) (A := A.in1) hh _ l hlI (intItems xs)
 have hsz : (intItems xs).size = xs.size := by simp [intItems]
 refine wpAny_pure ⟨plainId_quiet F.plain_max_loop _, mxD_first d W (fun i j => decide (numAt xs i > numAt xs j)) (CmpOf.ints_gt (numAt xs) (fun _ _ => intItems_at)) _ (fun hm => Nat.lt_irrefl _ (hfp _ hm)) (W.frame _ _ _ st fun b _ o q => Heap.get?_push_of_some _ q) (Heap.get?_push_size _ rfl) fun v h' tk hP hk => ?_⟩
 rw [hsz] at hP
 refine h v h' tk hP (old_kept (l := l) fun b o hb q => ?_)
 exact hk b o hb (Nat.ne_of_lt (Heap.lt_size q)) (Heap.get?_push_of_some _ q)
end
noncomputable def rMaxD (K : PySem.W.Frag) : List V → List V → Hp → VK → Prop := fun vs ds H Q => match vs, ds with
 | [.ref p], [d] => ∃ ns : List Int, SqL K H p (ns.map V.int) ∧ (ns = [] → Q d H) ∧ (0 < ns.length → ∀ M, M ∈ ns → (∀ a, a ∈ ns → a ≤ M) → Q (.int M) H)
 | _, _ => False
noncomputable def tMaxD (K : PySem.W.Frag) (t td : TA) : TE := fun σ H Q => t σ H fun vs H1 => td σ H1 fun ds H2 => rMaxD K vs ds H2 Q
theorem rMaxD_ref {K : PySem.W.Frag} {p : Addr} {d : V} {H : Hp} {Q : VK} : rMaxD K [.ref p] [d] H Q = ∃ ns : List Int, SqL K H p (ns.map V.int) ∧ (ns = [] → Q d H) ∧ (0 < ns.length → ∀ M, M ∈ ns → (∀ a, a ∈ ns → a ≤ M) → Q (.int M) H) := rfl
section
variable {X : Cx}
theorem pe_maxD {e d : Expr} {t : TA} {td : TE} {p kp pos : Pos} (K : PySem.W.Frag) (hK : X.K = K) (hc : X.calm = true) (hg : Gl X "max") (hm : X.mg "max" = none) (ha : PA X [e] t) (hd : PE X d td) (hs : isStar e = false := by rfl) :
  PE X (.Call (.Name "max" p) [e] [⟨some "default", d, kp⟩] pos) (tMaxD K t (tCons td tNil)) := by
 subst hK
 intro pins s σ H Q I h
 refine wpAny_Call_Name_kw (ld_blt I hg hm bt_max ?_)
 refine callWith_kw (thn (ha pos pins s σ H _ I h) fun us s1 ⟨vs, H1, I1, r1, q1⟩ => thn (pk_cons hd pk_nil pos pins s1 σ H1 _ I1 q1) fun ws s2 ⟨ds, H2, I2, r2, q2⟩ => ?_) (by rw [starEach_of hs]; rfl) (by rw [starEach_of hs]; rfl)
 replace q2 : rMaxD X.K vs ds H2 Q := q2
 unfold rMaxD at q2
 split at q2
 ·rename_i p d _
  obtain ⟨ns, hS, k1, k2⟩ := q2
  obtain ⟨u, rfl, ru⟩ := vals1 r1
  cases ru
  obtain ⟨dv, rfl, rd⟩ := vals1 r2
  obtain ⟨its, r, pl, hz⟩ := I2.list hS
  have hi := ints_are r
  have hl := pl.isList
  obtain ⟨xs, e⟩ := hi.allInts.items
  have hns : ns = xs.toList.map (·.1) := by rw [← hi.numsOf, ← nums_intItems, ← e]
  have hsz : ns.length = xs.size := by rw [hns, List.length_map, Array.length_toList]
  rw [e] at hl
  refine mxD_call (I2.ok.hd hc) hl fun v h' tk hv hk => ?_
  rcases hv with ⟨z, rfl⟩ | ⟨z, hv⟩
  ·exact ⟨d, H2, I2.kept (t' := tk) hk, rd, k1 (List.length_eq_zero_iff.mp (by omega))⟩
  ·obtain ⟨t, rfl⟩ := intItems_at hv
   obtain ⟨h1, h2⟩ := argBest_gt (numAt xs) (xs.size - 1)
   refine ⟨.int _, H2, I2.kept (t' := tk) hk, ⟨t, rfl⟩, k2 (by omega) _ ?_ fun a ha => ?_⟩
   ·rw [hns, numAt_eq]; exact getD_mem (by rw [List.length_map, Array.length_toList]; omega)
   ·rw [hns] at ha
    obtain ⟨j, hj, rfl⟩ := mem_getD ha
    rw [List.length_map, Array.length_toList] at hj
    rw [← numAt_eq]; exact h2 j (by omega)
 ·exact q2.elim
end
end L2
set_option maxRecDepth 100000
set_option maxHeartbeats 1000000
namespace L2
open PySem PySem.Spec PyProof.Rows
section
variable {prog : Program} {w : World} {A : Around} {E : Value → Shared → Prop} {s : Shared} {K : PySem.W.Frag}
end
section
variable {X : Cx}
end
end L2
set_option maxRecDepth 100000
set_option maxHeartbeats 1000000
namespace L2
open PySem PySem.Spec PyProof.Rows
noncomputable def rSumT (K : PySem.W.Frag) : List V → Hp → VK → Prop := fun xs H Q => match xs with
 | [.ref p] => ∃ ns : List Int, SqT K H p (ns.map V.int) ∧ Q (.int ns.sum) H
 | _ => False
noncomputable def rMaxT (K : PySem.W.Frag) : List V → Hp → VK → Prop := fun xs H Q => match xs with
 | [.ref p] => ∃ ns : List Int, SqT K H p (ns.map V.int) ∧ 0 < ns.length ∧ ∀ M, M ∈ ns → (∀ a, a ∈ ns → a ≤ M) → Q (.int M) H
 | _ => False
theorem rSumT_ref {K : PySem.W.Frag} {p : Addr} {H : Hp} {Q : VK} : rSumT K [.ref p] H Q = (∃ ns : List Int, SqT K H p (ns.map V.int) ∧ Q (.int ns.sum) H) := rfl
theorem rMaxT_ref {K : PySem.W.Frag} {p : Addr} {H : Hp} {Q : VK} : rMaxT K [.ref p] H Q = ∃ ns : List Int, SqT K H p (ns.map V.int) ∧ 0 < ns.length ∧ ∀ M, M ∈ ns → (∀ a, a ∈ ns → a ≤ M) → Q (.int M) H := rfl
theorem call_sumT {X : Cx} (K : PySem.W.Frag) (hK : X.K = K) (hc : X.calm = true) : CallR X (.builtin "sum") (rSumT K) := by
 subst hK
 intro pins s σ H xs us Q I rs q
 unfold rSumT at q
 split at q
 ·rename_i p
  obtain ⟨u, rfl, ru⟩ := vals1 rs
  cases ru
  obtain ⟨ns, hS, q⟩ := q
  obtain ⟨its, r, pl, hz⟩ := I.tuple hS
  have hlt : p < s.heap.objs.size := by obtain ⟨o, e, _⟩ := pl; exact Heap.lt_size e
  have hlen := r.length
  rw [List.length_map] at hlen
  refine call_sum_walkG (wpAny_pyIter_tuple pl ⟨s.heap.objs.size, _, _, _, _, _, fun i => ns.getD i 0, rfl, Walks.tuple (A := X.A.in1) (I.ok.hd hc) s.heap.objs.size p (Nat.ne_of_lt hlt) its.toArray, ⟨⟨_, Heap.get?_push_size _ rfl, rfl, rfl⟩, pl.push _⟩, fun b hb => ?_, fun i v hv => ?_, fun h' tk t' hk => ?_⟩)
  ·have : b = s.heap.objs.size ∨ b = p := by simpa using hb
   show b < (s.heap.push _).objs.size
   rw [Heap.size_push]
   rcases this with rfl | rfl
   ·exact Nat.lt_succ_self _
   ·exact Nat.lt_succ_of_lt hlt
  ·have hP' : its[i]? = some v := by simpa using hv
   have hi : i < ns.length := by
    have := (List.getElem?_eq_some_iff.mp hP').1
    omega
   obtain ⟨u, hu, ru⟩ := r.get (i := i) (x := .int ns[i]) (by rw [List.getElem?_map, List.getElem?_eq_getElem hi]; rfl)
   rw [hP'] at hu
   cases hu
   obtain ⟨t, rfl⟩ := ru
   exact ⟨t, by simp [List.getD, hi]⟩
  ·refine ⟨.int ns.sum, H, I.kept (h' := h') (t' := tk) fun b o e => hk b o (fun z => lt_ne e (Nat.le_refl _) (List.mem_singleton.mp z)) (Heap.get?_push_of_some _ e), ⟨t', ?_⟩, q⟩
   rw [List.size_toArray, ← hlen, preSum_eq ns ns.length (Nat.le_refl _), List.take_length]
 ·exact q.elim
theorem call_maxT {X : Cx} (K : PySem.W.Frag) (hK : X.K = K) (hc : X.calm = true) : CallR X (.builtin "max") (rMaxT K) := by
 subst hK
 intro pins s σ H xs us Q I rs q
 unfold rMaxT at q
 split at q
 ·rename_i p
  obtain ⟨u, rfl, ru⟩ := vals1 rs
  cases ru
  obtain ⟨ns, hS, hne, q⟩ := q
  obtain ⟨its, r, pl, hz⟩ := I.tuple hS
  have hi := ints_are r
  obtain ⟨xs, e⟩ := hi.allInts.items
  have hns : ns = xs.toList.map (·.1) := by rw [← hi.numsOf, ← nums_intItems, ← e]
  have hsz : 0 < xs.size := by
   have h3 := hne; rw [hns, List.length_map, Array.length_toList] at h3; exact h3
  rw [e] at pl
  have hlt : p < s.heap.objs.size := by obtain ⟨o, e, _⟩ := pl; exact Heap.lt_size e
  refine call_max_walk (wpAny_pyIter_tuple pl ⟨s.heap.objs.size, _, _, _, _, _, _, rfl, Walks.tuple (A := X.A.in1) (I.ok.hd hc) s.heap.objs.size p (Nat.ne_of_lt hlt) (intItems xs), ⟨⟨_, Heap.get?_push_size _ rfl, rfl, rfl⟩, pl.push _⟩, fun b hb => ?_, by simpa [intItems] using hsz, CmpOf.ints_gt (numAt xs) (fun _ _ => intItems_at), fun v h' tk hP hk => ?_⟩)
  ·have : b = s.heap.objs.size ∨ b = p := by simpa using hb
   show b < (s.heap.push _).objs.size
   rw [Heap.size_push]
   rcases this with rfl | rfl
   ·exact Nat.lt_succ_self _
   ·exact Nat.lt_succ_of_lt hlt
  ·have hv : (intItems xs)[argBest (fun i j => decide (numAt xs i > numAt xs j)) (xs.size - 1)]? = some v := by simpa [intItems] using hP
   obtain ⟨t, rfl⟩ := intItems_at hv
   obtain ⟨h1, h2⟩ := argBest_gt (numAt xs) (xs.size - 1)
   refine ⟨.int _, H, I.kept (h' := h') (t' := tk) fun b o e => hk b o (fun z => lt_ne e (Nat.le_refl _) (List.mem_singleton.mp z)) (Heap.get?_push_of_some _ e), ⟨t, rfl⟩, q _ ?_ fun a ha => ?_⟩
   ·rw [hns, numAt_eq]; exact getD_mem (by rw [List.length_map, Array.length_toList]; omega)
   ·rw [hns] at ha
    obtain ⟨j, hj, rfl⟩ := mem_getD ha
    rw [List.length_map, Array.length_toList] at hj
    rw [← numAt_eq]; exact h2 j (by omega)
 ·exact q.elim
theorem rep_len (a : Array Nat) : ∀ (n : Nat) (b : Array Nat), ((List.replicate n a).foldl (· ++ ·) b).size = b.size + n * a.size
 | 0, b => by simp
 | n + 1, b => by
  rw [List.replicate_succ, List.foldl_cons, rep_len a n, Array.size_append, Nat.succ_mul]
  omega
noncomputable def rMulS : R2 := fun x y H Q => match x, y with
 | .str z, .int n => (1 ≤ n ∧ n ≤ 1000) ∧ (1 ≤ z.length ∧ z.length ≤ 100) ∧ ∀ r : Str, r.length = z.length * n.toNat → Q (.str r) H
 | _, _ => False
theorem rMulS_str {z : Str} {n : Int} {H : Hp} {Q : VK} : rMulS (.str z) (.int n) H Q = ((1 ≤ n ∧ n ≤ 1000) ∧ (1 ≤ z.length ∧ z.length ≤ 100) ∧ ∀ r : Str, r.length = z.length * n.toNat → Q (.str r) H) := rfl
theorem op_mulS {X : Cx} : OpR X (binaryOp .Mult) rMulS := by
 intro pins s σ H x y v u Q I rx ry q
 unfold rMulS at q
 split at q
 ·rename_i z n
  obtain ⟨hn, hz, q⟩ := q
  obtain ⟨t, rfl⟩ := rx
  obtain ⟨t', rfl⟩ := ry
  have hb : z.length * n.toNat ≤ 100000 := by
   have h1 : n.toNat ≤ 1000 := by omega
   have h2 := Nat.mul_le_mul hz.2 h1
   omega
  refine P.mul_str ?_ (fun _ _ => ?_) (fun _ _ => ?_) ?_
  ·rw [decide_eq_false (by omega), decide_eq_false (by omega)]; rfl
  ·have h3 : (1000 : Int) ≤ (2 ^ 63 - 1) / n := by
    rw [Int.le_ediv_iff_mul_le (by omega)]
    have := Int.mul_le_mul_of_nonneg_left hn.2 (show (0 : Int) ≤ 1000 by decide)
    omega
   omega
  ·show decide (_ > sizeLine) = false
   rw [sizeLine_eq]
   exact decide_eq_false (by omega)
  ·rw [if_neg (by omega)]
   split
   ·rename_i c
    have e1 : n = 1 := by
     rcases (Bool.or_eq_true _ _).mp c with c | c
     ·exact eq_of_beq c
     ·have := eq_of_beq c; omega
    exact ⟨.str z, H, I, ⟨t, rfl⟩, q z (by rw [e1]; simp)⟩
   ·have e2 : (⟨(List.replicate n.toNat z.cps).foldl (· ++ ·) #[]⟩ : Str).length = z.length * n.toNat := by
     show ((List.replicate n.toNat z.cps).foldl (· ++ ·) #[]).size = _
     rw [rep_len, Nat.mul_comm]
     show 0 + _ = _
     rw [Nat.zero_add]
     rfl
    refine ⟨?_, ⟨.str _, H, I.tok _, ⟨_, rfl⟩, q _ e2⟩⟩
    rw [e2, sizeLine_eq]
    omega
 ·exact q.elim
theorem co_tupH {K : PySem.W.Frag} {g : TG} {tt : TT} {te : TE} {H : Hp} {σ : St} {Q : List V → Hp → Prop} {a : Addr} {xs : List V} (hS : SqT K H a xs) (hz : xs.length ≤ sizeLine) (Pv : Nat → List V → St → Hp → Prop) (h0 : Pv 0 [] σ H) (hl : ∀ i ys σ H, Pv i ys σ H → ys.length ≤ i) (hk : ∀ i ys σ H, Pv i ys σ H → SqT K H a xs)
  (step : ∀ (i : Nat) x ys σ H, xs[i]? = some x → Pv i ys σ H → g x σ H fun σ2 H2 => tt σ2 H2 fun b H3 => if b = true then te σ2 H3 fun y H4 => Pv (i + 1) (ys ++ [y]) σ2 H4 else Pv (i + 1) ys σ2 H3) (q : ∀ ys σ H, Pv xs.length ys σ H → Q ys H) : seqR K (.ref a) H fun J H2 => compR J g tt te σ H2 Q := by
 refine .inr ⟨xs, hS, co_any (n := xs.length) Pv h0 hz hl (fun i ys σ H hi hp => ⟨xs, xs[i], hk _ _ _ _ hp, by simp [hi]⟩) (fun ys σ H hp => ⟨xs, hk _ _ _ _ hp, Nat.le_refl _⟩) (fun i ys σ H x H'' hi hp y => ?_) q⟩
 obtain ⟨e, hx⟩ := y
 subst e
 exact step i x ys σ _ (hx xs (hk _ _ _ _ hp)) hp
end L2
set_option maxRecDepth 100000
set_option maxHeartbeats 4000000
namespace K72
open PySem L2 Com FairM
noncomputable def tHold (u : TS) : TS := u
theorem pss_hold {X : Cx} {l : List Stmt} {u : TS} (h : PSs X l u) : PSs X l (tHold u) := h
theorem qss_hold {X : Cx} {l : List Stmt} {u : TS} (h : QSs X l u) : QSs X l (tHold u) := ⟨h.h⟩
theorem gen_ends {u : TS} {D : Ends} {σ : St} {H : Hp} (h : ∀ D', D' = D → u D' σ H) : u D σ H := h D rfl
noncomputable def fromB (v l h : Int) : Bool := decide (l ≤ v) && decide (v ≤ h)
noncomputable def top (i : Nat) : Stmt := PySem.Challenge.pw_slowroad_k72_reckoned.main.body.getD i (.Pass ⟨0, 0, 0, 0⟩)
theorem len_1 {α : Type} {us : List α} (h : us.length = 1) : ∃ a0, us = [a0] := List.length_eq_one_iff.mp h
theorem len_2 {α : Type} {us : List α} (h : us.length = 2) : ∃ a0 a1, us = [a0, a1] := by
 obtain ⟨a, t, rfl⟩ := List.exists_cons_of_length_eq_add_one h
 obtain ⟨b0, rfl⟩ := len_1 (Nat.succ.inj h)
 exact ⟨a, b0, rfl⟩
theorem len_3 {α : Type} {us : List α} (h : us.length = 3) : ∃ a0 a1 a2, us = [a0, a1, a2] := by
 obtain ⟨a, t, rfl⟩ := List.exists_cons_of_length_eq_add_one h
 obtain ⟨b0, b1, rfl⟩ := len_2 (Nat.succ.inj h)
 exact ⟨a, b0, b1, rfl⟩
theorem len_4 {α : Type} {us : List α} (h : us.length = 4) : ∃ a0 a1 a2 a3, us = [a0, a1, a2, a3] := by
 obtain ⟨a, t, rfl⟩ := List.exists_cons_of_length_eq_add_one h
 obtain ⟨b0, b1, b2, rfl⟩ := len_3 (Nat.succ.inj h)
 exact ⟨a, b0, b1, b2, rfl⟩
theorem len_5 {α : Type} {us : List α} (h : us.length = 5) : ∃ a0 a1 a2 a3 a4, us = [a0, a1, a2, a3, a4] := by
 obtain ⟨a, t, rfl⟩ := List.exists_cons_of_length_eq_add_one h
 obtain ⟨b0, b1, b2, b3, rfl⟩ := len_4 (Nat.succ.inj h)
 exact ⟨a, b0, b1, b2, b3, rfl⟩
theorem len_6 {α : Type} {us : List α} (h : us.length = 6) : ∃ a0 a1 a2 a3 a4 a5, us = [a0, a1, a2, a3, a4, a5] := by
 obtain ⟨a, t, rfl⟩ := List.exists_cons_of_length_eq_add_one h
 obtain ⟨b0, b1, b2, b3, b4, rfl⟩ := len_5 (Nat.succ.inj h)
 exact ⟨a, b0, b1, b2, b3, b4, rfl⟩
noncomputable abbrev s_is_from : Stmt := top 1
theorem sc_is_from : FnScope ["value", "low", "high"] ["value", "low", "high"] (defScope s_is_from) := ⟨rfl, rfl, rfl, by decide +kernel, rfl, by decide +kernel, by decide +kernel⟩
theorem bd_is_from : ∀ (kV doc pm : Value) (an : Option Addr) (cdv ct : Value) (us : List Value), us.length = (["value", "low", "high"] : List Str).length → bindArgs (PySem.W.fnOf "is_from" "is_from" (defArgs s_is_from) (defBody s_is_from) (defScope s_is_from) .none kV doc pm an cdv ct) ⟨us, []⟩ = pure ((["value", "low", "high"] : List Str).zip us) := by
 intro _ _ _ _ _ _ us hl; obtain ⟨_, _, _, rfl⟩ := len_3 hl; rfl
noncomputable abbrev s_NotWide___init__ : Stmt := inClass (top 5) 0
theorem sc_NotWide___init__ : FnScope ["self", "least"] ["self", "least"] (defScope s_NotWide___init__) := ⟨rfl, rfl, rfl, by decide +kernel, rfl, by decide +kernel, by decide +kernel⟩
theorem bd_NotWide___init__ : ∀ (kV doc pm : Value) (an : Option Addr) (cdv ct : Value) (us : List Value), us.length = (["self", "least"] : List Str).length → bindArgs (PySem.W.fnOf "__init__" "NotWide.__init__" (defArgs s_NotWide___init__) (defBody s_NotWide___init__) (defScope s_NotWide___init__) .none kV doc pm an cdv ct) ⟨us, []⟩ = pure ((["self", "least"] : List Str).zip us) := by
 intro _ _ _ _ _ _ us hl; obtain ⟨_, _, rfl⟩ := len_2 hl; rfl
noncomputable abbrev s_has_whole_copy : Stmt := top 8
theorem sc_has_whole_copy : FnScope ["deed"] ["deed"] (defScope s_has_whole_copy) := ⟨rfl, rfl, rfl, by decide +kernel, rfl, by decide +kernel, by decide +kernel⟩
theorem bd_has_whole_copy : ∀ (kV doc pm : Value) (an : Option Addr) (cdv ct : Value) (us : List Value), us.length = (["deed"] : List Str).length → bindArgs (PySem.W.fnOf "has_whole_copy" "has_whole_copy" (defArgs s_has_whole_copy) (defBody s_has_whole_copy) (defScope s_has_whole_copy) .none kV doc pm an cdv ct) ⟨us, []⟩ = pure ((["deed"] : List Str).zip us) := by
 intro _ _ _ _ _ _ us hl; obtain ⟨_, rfl⟩ := len_1 hl; rfl
noncomputable abbrev s_fairness : Stmt := top 9
theorem sc_fairness : FnScope ["deeds", "whole", "later"] ["deeds"] (defScope s_fairness) := ⟨rfl, rfl, rfl, by decide +kernel, rfl, by decide +kernel, by decide +kernel⟩
theorem bd_fairness : ∀ (kV doc pm : Value) (an : Option Addr) (cdv ct : Value) (us : List Value), us.length = (["deeds"] : List Str).length → bindArgs (PySem.W.fnOf "fairness" "fairness" (defArgs s_fairness) (defBody s_fairness) (defScope s_fairness) .none kV doc pm an cdv ct) ⟨us, []⟩ = pure ((["deeds"] : List Str).zip us) := by
 intro _ _ _ _ _ _ us hl; obtain ⟨_, rfl⟩ := len_1 hl; rfl
noncomputable abbrev s_last_turn_of : Stmt := top 11
theorem sc_last_turn_of : FnScope ["wishes"] ["wishes"] (defScope s_last_turn_of) := ⟨rfl, rfl, rfl, by decide +kernel, rfl, by decide +kernel, by decide +kernel⟩
theorem bd_last_turn_of : ∀ (kV doc pm : Value) (an : Option Addr) (cdv ct : Value) (us : List Value), us.length = (["wishes"] : List Str).length → bindArgs (PySem.W.fnOf "last_turn_of" "last_turn_of" (defArgs s_last_turn_of) (defBody s_last_turn_of) (defScope s_last_turn_of) .none kV doc pm an cdv ct) ⟨us, []⟩ = pure ((["wishes"] : List Str).zip us) := by
 intro _ _ _ _ _ _ us hl; obtain ⟨_, rfl⟩ := len_1 hl; rfl
noncomputable abbrev s_things_of : Stmt := top 14
theorem sc_things_of : FnScope ["wish"] ["wish"] (defScope s_things_of) := ⟨rfl, rfl, rfl, by decide +kernel, rfl, by decide +kernel, by decide +kernel⟩
theorem bd_things_of : ∀ (kV doc pm : Value) (an : Option Addr) (cdv ct : Value) (us : List Value), us.length = (["wish"] : List Str).length → bindArgs (PySem.W.fnOf "things_of" "things_of" (defArgs s_things_of) (defBody s_things_of) (defScope s_things_of) .none kV doc pm an cdv ct) ⟨us, []⟩ = pure ((["wish"] : List Str).zip us) := by
 intro _ _ _ _ _ _ us hl; obtain ⟨_, rfl⟩ := len_1 hl; rfl
noncomputable abbrev s_things_at_most : Stmt := top 15
theorem sc_things_at_most : FnScope ["wishes"] ["wishes"] (defScope s_things_at_most) := ⟨rfl, rfl, rfl, by decide +kernel, rfl, by decide +kernel, by decide +kernel⟩
theorem bd_things_at_most : ∀ (kV doc pm : Value) (an : Option Addr) (cdv ct : Value) (us : List Value), us.length = (["wishes"] : List Str).length → bindArgs (PySem.W.fnOf "things_at_most" "things_at_most" (defArgs s_things_at_most) (defBody s_things_at_most) (defScope s_things_at_most) .none kV doc pm an cdv ct) ⟨us, []⟩ = pure ((["wishes"] : List Str).zip us) := by
 intro _ _ _ _ _ _ us hl; obtain ⟨_, rfl⟩ := len_1 hl; rfl
noncomputable abbrev s_reckoned : Stmt := top 16
theorem sc_reckoned : FnScope ["terms", "roads", "wishes", "fair", "greater", "lag", "rounds", "turns"] ["terms", "roads", "wishes"] (defScope s_reckoned) := ⟨rfl, rfl, rfl, by decide +kernel, rfl, by decide +kernel, by decide +kernel⟩
theorem bd_reckoned : ∀ (kV doc pm : Value) (an : Option Addr) (cdv ct : Value) (us : List Value), us.length = (["terms", "roads", "wishes"] : List Str).length → bindArgs (PySem.W.fnOf "reckoned" "reckoned" (defArgs s_reckoned) (defBody s_reckoned) (defScope s_reckoned) .none kV doc pm an cdv ct) ⟨us, []⟩ = pure ((["terms", "roads", "wishes"] : List Str).zip us) := by
 intro _ _ _ _ _ _ us hl; obtain ⟨_, _, _, rfl⟩ := len_3 hl; rfl
noncomputable abbrev s_need : Stmt := top 18
theorem sc_need : FnScope ["room", "lag"] ["room", "lag"] (defScope s_need) := ⟨rfl, rfl, rfl, by decide +kernel, rfl, by decide +kernel, by decide +kernel⟩
theorem bd_need : ∀ (kV doc pm : Value) (an : Option Addr) (cdv ct : Value) (us : List Value), us.length = (["room", "lag"] : List Str).length → bindArgs (PySem.W.fnOf "need" "need" (defArgs s_need) (defBody s_need) (defScope s_need) .none kV doc pm an cdv ct) ⟨us, []⟩ = pure ((["room", "lag"] : List Str).zip us) := by
 intro _ _ _ _ _ _ us hl; obtain ⟨_, _, rfl⟩ := len_2 hl; rfl
noncomputable abbrev s_are_rooms : Stmt := top 25
theorem sc_are_rooms : FnScope ["rooms"] ["rooms"] (defScope s_are_rooms) := ⟨rfl, rfl, rfl, by decide +kernel, rfl, by decide +kernel, by decide +kernel⟩
theorem bd_are_rooms : ∀ (kV doc pm : Value) (an : Option Addr) (cdv ct : Value) (us : List Value), us.length = (["rooms"] : List Str).length → bindArgs (PySem.W.fnOf "are_rooms" "are_rooms" (defArgs s_are_rooms) (defBody s_are_rooms) (defScope s_are_rooms) .none kV doc pm an cdv ct) ⟨us, []⟩ = pure ((["rooms"] : List Str).zip us) := by
 intro _ _ _ _ _ _ us hl; obtain ⟨_, rfl⟩ := len_1 hl; rfl
noncomputable abbrev s_are_waits : Stmt := top 26
theorem sc_are_waits : FnScope ["first", "longest"] ["first", "longest"] (defScope s_are_waits) := ⟨rfl, rfl, rfl, by decide +kernel, rfl, by decide +kernel, by decide +kernel⟩
theorem bd_are_waits : ∀ (kV doc pm : Value) (an : Option Addr) (cdv ct : Value) (us : List Value), us.length = (["first", "longest"] : List Str).length → bindArgs (PySem.W.fnOf "are_waits" "are_waits" (defArgs s_are_waits) (defBody s_are_waits) (defScope s_are_waits) .none kV doc pm an cdv ct) ⟨us, []⟩ = pure ((["first", "longest"] : List Str).zip us) := by
 intro _ _ _ _ _ _ us hl; obtain ⟨_, _, rfl⟩ := len_2 hl; rfl
noncomputable abbrev s_Terms___init__ : Stmt := inClass (top 27) 0
theorem sc_Terms___init__ : FnScope ["self", "ring", "rooms", "lag", "first", "longest", "least"] ["self", "ring", "rooms", "lag", "first", "longest"] (defScope s_Terms___init__) := ⟨rfl, rfl, rfl, by decide +kernel, rfl, by decide +kernel, by decide +kernel⟩
theorem bd_Terms___init__ : ∀ (kV doc pm : Value) (an : Option Addr) (cdv ct : Value) (us : List Value), us.length = (["self", "ring", "rooms", "lag", "first", "longest"] : List Str).length → bindArgs (PySem.W.fnOf "__init__" "Terms.__init__" (defArgs s_Terms___init__) (defBody s_Terms___init__) (defScope s_Terms___init__) .none kV doc pm an cdv ct) ⟨us, []⟩ = pure ((["self", "ring", "rooms", "lag", "first", "longest"] : List Str).zip us) := by
 intro _ _ _ _ _ _ us hl; obtain ⟨_, _, _, _, _, _, rfl⟩ := len_6 hl; rfl
noncomputable abbrev s__law_whole : Stmt := top 29
theorem sc__law_whole : FnScope ["_law_found"] ["_law_found"] (defScope s__law_whole) := ⟨rfl, rfl, rfl, by decide +kernel, rfl, by decide +kernel, by decide +kernel⟩
theorem bd__law_whole : ∀ (kV doc pm : Value) (an : Option Addr) (cdv ct : Value) (us : List Value), us.length = (["_law_found"] : List Str).length → bindArgs (PySem.W.fnOf "_law_whole" "_law_whole" (defArgs s__law_whole) (defBody s__law_whole) (defScope s__law_whole) .none kV doc pm an cdv ct) ⟨us, []⟩ = pure ((["_law_found"] : List Str).zip us) := by
 intro _ _ _ _ _ _ us hl; obtain ⟨_, rfl⟩ := len_1 hl; rfl
noncomputable abbrev s__law_cell_at : Stmt := top 30
theorem sc__law_cell_at : FnScope ["_law_script", "_law_k"] ["_law_script", "_law_k"] (defScope s__law_cell_at) := ⟨rfl, rfl, rfl, by decide +kernel, rfl, by decide +kernel, by decide +kernel⟩
theorem bd__law_cell_at : ∀ (kV doc pm : Value) (an : Option Addr) (cdv ct : Value) (us : List Value), us.length = (["_law_script", "_law_k"] : List Str).length → bindArgs (PySem.W.fnOf "_law_cell_at" "_law_cell_at" (defArgs s__law_cell_at) (defBody s__law_cell_at) (defScope s__law_cell_at) .none kV doc pm an cdv ct) ⟨us, []⟩ = pure ((["_law_script", "_law_k"] : List Str).zip us) := by
 intro _ _ _ _ _ _ us hl; obtain ⟨_, _, rfl⟩ := len_2 hl; rfl
noncomputable abbrev s__law_is_row : Stmt := top 31
theorem sc__law_is_row : FnScope ["_law_cell"] ["_law_cell"] (defScope s__law_is_row) := ⟨rfl, rfl, rfl, by decide +kernel, rfl, by decide +kernel, by decide +kernel⟩
theorem bd__law_is_row : ∀ (kV doc pm : Value) (an : Option Addr) (cdv ct : Value) (us : List Value), us.length = (["_law_cell"] : List Str).length → bindArgs (PySem.W.fnOf "_law_is_row" "_law_is_row" (defArgs s__law_is_row) (defBody s__law_is_row) (defScope s__law_is_row) .none kV doc pm an cdv ct) ⟨us, []⟩ = pure ((["_law_cell"] : List Str).zip us) := by
 intro _ _ _ _ _ _ us hl; obtain ⟨_, rfl⟩ := len_1 hl; rfl
noncomputable abbrev s__law_digit : Stmt := top 32
theorem sc__law_digit : FnScope ["_law_cell", "_law_k", "_law_number"] ["_law_cell", "_law_k"] (defScope s__law_digit) := ⟨rfl, rfl, rfl, by decide +kernel, rfl, by decide +kernel, by decide +kernel⟩
theorem bd__law_digit : ∀ (kV doc pm : Value) (an : Option Addr) (cdv ct : Value) (us : List Value), us.length = (["_law_cell", "_law_k"] : List Str).length → bindArgs (PySem.W.fnOf "_law_digit" "_law_digit" (defArgs s__law_digit) (defBody s__law_digit) (defScope s__law_digit) .none kV doc pm an cdv ct) ⟨us, []⟩ = pure ((["_law_cell", "_law_k"] : List Str).zip us) := by
 intro _ _ _ _ _ _ us hl; obtain ⟨_, _, rfl⟩ := len_2 hl; rfl
noncomputable abbrev s__law_any_text : Stmt := top 33
theorem sc__law_any_text : FnScope ["_law_cell", "_law_k", "_law_size", "_law_some", "_law_text", "_law_j", "_law_number"] ["_law_cell", "_law_k", "_law_size"] (defScope s__law_any_text) := ⟨rfl, rfl, rfl, by decide +kernel, rfl, by decide +kernel, by decide +kernel⟩
theorem bd__law_any_text : ∀ (kV doc pm : Value) (an : Option Addr) (cdv ct : Value) (us : List Value), us.length = (["_law_cell", "_law_k", "_law_size"] : List Str).length → bindArgs (PySem.W.fnOf "_law_any_text" "_law_any_text" (defArgs s__law_any_text) (defBody s__law_any_text) (defScope s__law_any_text) .none kV doc pm an cdv ct) ⟨us, []⟩ = pure ((["_law_cell", "_law_k", "_law_size"] : List Str).zip us) := by
 intro _ _ _ _ _ _ us hl; obtain ⟨_, _, _, rfl⟩ := len_3 hl; rfl
noncomputable abbrev s__law_any_deeds : Stmt := top 34
theorem sc__law_any_deeds : FnScope ["_law_cell", "_law_lag", "_law_many", "_law_deeds_here", "_law_k", "_law_deed", "_law_j", "_law_number"] ["_law_cell", "_law_lag", "_law_many"] (defScope s__law_any_deeds) := ⟨rfl, rfl, rfl, by decide +kernel, rfl, by decide +kernel, by decide +kernel⟩
theorem bd__law_any_deeds : ∀ (kV doc pm : Value) (an : Option Addr) (cdv ct : Value) (us : List Value), us.length = (["_law_cell", "_law_lag", "_law_many"] : List Str).length → bindArgs (PySem.W.fnOf "_law_any_deeds" "_law_any_deeds" (defArgs s__law_any_deeds) (defBody s__law_any_deeds) (defScope s__law_any_deeds) .none kV doc pm an cdv ct) ⟨us, []⟩ = pure ((["_law_cell", "_law_lag", "_law_many"] : List Str).zip us) := by
 intro _ _ _ _ _ _ us hl; obtain ⟨_, _, _, rfl⟩ := len_3 hl; rfl
noncomputable abbrev s__law_any_wishes : Stmt := top 35
theorem sc__law_any_wishes : FnScope ["_law_cell", "_law_most", "_law_far", "_law_longest_text", "_law_wishes", "_law_k", "_law_number", "_law_turn", "_law_side", "_law_way", "_law_size", "_law_text"] ["_law_cell", "_law_most", "_law_far", "_law_longest_text"] (defScope s__law_any_wishes) := ⟨rfl, rfl, rfl, by decide +kernel, rfl, by decide +kernel, by decide +kernel⟩
theorem bd__law_any_wishes : ∀ (kV doc pm : Value) (an : Option Addr) (cdv ct : Value) (us : List Value), us.length = (["_law_cell", "_law_most", "_law_far", "_law_longest_text"] : List Str).length → bindArgs (PySem.W.fnOf "_law_any_wishes" "_law_any_wishes" (defArgs s__law_any_wishes) (defBody s__law_any_wishes) (defScope s__law_any_wishes) .none kV doc pm an cdv ct) ⟨us, []⟩ = pure ((["_law_cell", "_law_most", "_law_far", "_law_longest_text"] : List Str).zip us) := by
 intro _ _ _ _ _ _ us hl; obtain ⟨_, _, _, _, rfl⟩ := len_4 hl; rfl
noncomputable abbrev s__law_any_measures : Stmt := top 36
theorem sc__law_any_measures : FnScope ["_law_cell", "_law_number", "_law_rooms", "_law_lag", "_law_least", "_law_longest", "_law_first"] ["_law_cell"] (defScope s__law_any_measures) := ⟨rfl, rfl, rfl, by decide +kernel, rfl, by decide +kernel, by decide +kernel⟩
theorem bd__law_any_measures : ∀ (kV doc pm : Value) (an : Option Addr) (cdv ct : Value) (us : List Value), us.length = (["_law_cell"] : List Str).length → bindArgs (PySem.W.fnOf "_law_any_measures" "_law_any_measures" (defArgs s__law_any_measures) (defBody s__law_any_measures) (defScope s__law_any_measures) .none kV doc pm an cdv ct) ⟨us, []⟩ = pure ((["_law_cell"] : List Str).zip us) := by
 intro _ _ _ _ _ _ us hl; obtain ⟨_, rfl⟩ := len_1 hl; rfl
noncomputable abbrev s__law_any_roads : Stmt := top 37
theorem sc__law_any_roads : FnScope ["_law_script", "_law_lag", "_law_roads", "_law_cell"] ["_law_script", "_law_lag"] (defScope s__law_any_roads) := ⟨rfl, rfl, rfl, by decide +kernel, rfl, by decide +kernel, by decide +kernel⟩
theorem bd__law_any_roads : ∀ (kV doc pm : Value) (an : Option Addr) (cdv ct : Value) (us : List Value), us.length = (["_law_script", "_law_lag"] : List Str).length → bindArgs (PySem.W.fnOf "_law_any_roads" "_law_any_roads" (defArgs s__law_any_roads) (defBody s__law_any_roads) (defScope s__law_any_roads) .none kV doc pm an cdv ct) ⟨us, []⟩ = pure ((["_law_script", "_law_lag"] : List Str).zip us) := by
 intro _ _ _ _ _ _ us hl; obtain ⟨_, _, rfl⟩ := len_2 hl; rfl
noncomputable abbrev s__law_mixed : Stmt := top 38
theorem sc__law_mixed : FnScope ["_law_cell", "_law_k", "_law_number"] ["_law_cell", "_law_k"] (defScope s__law_mixed) := ⟨rfl, rfl, rfl, by decide +kernel, rfl, by decide +kernel, by decide +kernel⟩
theorem bd__law_mixed : ∀ (kV doc pm : Value) (an : Option Addr) (cdv ct : Value) (us : List Value), us.length = (["_law_cell", "_law_k"] : List Str).length → bindArgs (PySem.W.fnOf "_law_mixed" "_law_mixed" (defArgs s__law_mixed) (defBody s__law_mixed) (defScope s__law_mixed) .none kV doc pm an cdv ct) ⟨us, []⟩ = pure ((["_law_cell", "_law_k"] : List Str).zip us) := by
 intro _ _ _ _ _ _ us hl; obtain ⟨_, _, rfl⟩ := len_2 hl; rfl
noncomputable abbrev s__law_deeds : Stmt := top 39
theorem sc__law_deeds : FnScope ["_law_cell", "_law_lag", "_law_number", "_law_deeds_here", "_law_k", "_law_whole_here", "_law_spoilt"] ["_law_cell", "_law_lag"] (defScope s__law_deeds) := ⟨rfl, rfl, rfl, by decide +kernel, rfl, by decide +kernel, by decide +kernel⟩
theorem bd__law_deeds : ∀ (kV doc pm : Value) (an : Option Addr) (cdv ct : Value) (us : List Value), us.length = (["_law_cell", "_law_lag"] : List Str).length → bindArgs (PySem.W.fnOf "_law_deeds" "_law_deeds" (defArgs s__law_deeds) (defBody s__law_deeds) (defScope s__law_deeds) .none kV doc pm an cdv ct) ⟨us, []⟩ = pure ((["_law_cell", "_law_lag"] : List Str).zip us) := by
 intro _ _ _ _ _ _ us hl; obtain ⟨_, _, rfl⟩ := len_2 hl; rfl
noncomputable abbrev s__law_fair : Stmt := top 40
theorem sc__law_fair : FnScope ["_law_deeds_here", "_law_bad", "_law_longest", "_law_row", "_law_k"] ["_law_deeds_here"] (defScope s__law_fair) := ⟨rfl, rfl, rfl, by decide +kernel, rfl, by decide +kernel, by decide +kernel⟩
theorem bd__law_fair : ∀ (kV doc pm : Value) (an : Option Addr) (cdv ct : Value) (us : List Value), us.length = (["_law_deeds_here"] : List Str).length → bindArgs (PySem.W.fnOf "_law_fair" "_law_fair" (defArgs s__law_fair) (defBody s__law_fair) (defScope s__law_fair) .none kV doc pm an cdv ct) ⟨us, []⟩ = pure ((["_law_deeds_here"] : List Str).zip us) := by
 intro _ _ _ _ _ _ us hl; obtain ⟨_, rfl⟩ := len_1 hl; rfl
noncomputable abbrev s__law_wish : Stmt := top 41
theorem sc__law_wish : FnScope ["_law_cell", "_law_number", "_law_turn", "_law_way"] ["_law_cell"] (defScope s__law_wish) := ⟨rfl, rfl, rfl, by decide +kernel, rfl, by decide +kernel, by decide +kernel⟩
theorem bd__law_wish : ∀ (kV doc pm : Value) (an : Option Addr) (cdv ct : Value) (us : List Value), us.length = (["_law_cell"] : List Str).length → bindArgs (PySem.W.fnOf "_law_wish" "_law_wish" (defArgs s__law_wish) (defBody s__law_wish) (defScope s__law_wish) .none kV doc pm an cdv ct) ⟨us, []⟩ = pure ((["_law_cell"] : List Str).zip us) := by
 intro _ _ _ _ _ _ us hl; obtain ⟨_, rfl⟩ := len_1 hl; rfl
noncomputable abbrev s_law : Stmt := top 42
theorem sc_law : FnScope ["_law_script", "_law_ring", "_law_rooms", "_law_lag", "_law_first", "_law_longest", "_law_roads", "_law_wishes", "_law_number", "_law_terms", "_law_handed", "_law_asked", "_law_things", "_law_wish_here", "_law_found", "_law_fair_here", "_law_most", "_law_last", "_law_steps", "_law_stretch", "_law_due"] ["_law_script"] (defScope s_law) := ⟨rfl, rfl, rfl, by decide +kernel, rfl, by decide +kernel, by decide +kernel⟩
theorem bd_law : ∀ (kV doc pm : Value) (an : Option Addr) (cdv ct : Value) (us : List Value), us.length = (["_law_script"] : List Str).length → bindArgs (PySem.W.fnOf "law" "law" (defArgs s_law) (defBody s_law) (defScope s_law) .none kV doc pm an cdv ct) ⟨us, []⟩ = pure ((["_law_script"] : List Str).zip us) := by
 intro _ _ _ _ _ _ us hl; obtain ⟨_, rfl⟩ := len_1 hl; rfl
noncomputable def fl_Terms_1 (v0 : V) : List (Str × V) := [("ring", v0)]
theorem fl_Terms_1_len {v0 : V} : (fl_Terms_1 v0).length < 1000 := by show 1 < 1000; decide
theorem fl_Terms_1_new {v0 : V} : putF "ring" v0 [] = fl_Terms_1 v0 := by kernel_rfl
noncomputable def fl_Terms_2 (v0 v1 : V) : List (Str × V) := [("ring", v0), ("rooms", v1)]
theorem fl_Terms_2_len {v0 v1 : V} : (fl_Terms_2 v0 v1).length < 1000 := by show 2 < 1000; decide
theorem fl_Terms_2_new {v0 v1 : V} : putF "rooms" v1 (fl_Terms_1 v0) = fl_Terms_2 v0 v1 := by kernel_rfl
noncomputable def fl_Terms_3 (v0 v1 v2 : V) : List (Str × V) := [("ring", v0), ("rooms", v1), ("lag", v2)]
theorem fl_Terms_3_len {v0 v1 v2 : V} : (fl_Terms_3 v0 v1 v2).length < 1000 := by show 3 < 1000; decide
theorem fl_Terms_3_new {v0 v1 v2 : V} : putF "lag" v2 (fl_Terms_2 v0 v1) = fl_Terms_3 v0 v1 v2 := by kernel_rfl
noncomputable def fl_Terms_4 (v0 v1 v2 v3 : V) : List (Str × V) := [("ring", v0), ("rooms", v1), ("lag", v2), ("first", v3)]
theorem fl_Terms_4_len {v0 v1 v2 v3 : V} : (fl_Terms_4 v0 v1 v2 v3).length < 1000 := by show 4 < 1000; decide
theorem fl_Terms_4_new {v0 v1 v2 v3 : V} : putF "first" v3 (fl_Terms_3 v0 v1 v2) = fl_Terms_4 v0 v1 v2 v3 := by kernel_rfl
noncomputable def fl_Terms (v0 v1 v2 v3 v4 : V) : List (Str × V) := [("ring", v0), ("rooms", v1), ("lag", v2), ("first", v3), ("longest", v4)]
theorem fl_Terms_new {v0 v1 v2 v3 v4 : V} : putF "longest" v4 (fl_Terms_4 v0 v1 v2 v3) = fl_Terms v0 v1 v2 v3 v4 := by kernel_rfl
theorem fl_Terms_get_rooms {v0 v1 v2 v3 v4 : V} : (fl_Terms v0 v1 v2 v3 v4).lookup ("rooms" : Str) = some v1 := by kernel_rfl
theorem fl_Terms_get_lag {v0 v1 v2 v3 v4 : V} : (fl_Terms v0 v1 v2 v3 v4).lookup ("lag" : Str) = some v2 := by kernel_rfl
theorem fl_Terms_get_longest {v0 v1 v2 v3 v4 : V} : (fl_Terms v0 v1 v2 v3 v4).lookup ("longest" : Str) = some v4 := by kernel_rfl
structure Txt (K : PySem.W.Frag) (mg : Str → Option Value) (C_Terms C_RoadError C_BadTerms C_NotWide : Addr) : Prop where
 k_Terms : KlsAt K mg "Terms" C_Terms
 n_Terms_ring : NoAttr K C_Terms "ring"
 n_Terms_rooms : NoAttr K C_Terms "rooms"
 n_Terms_lag : NoAttr K C_Terms "lag"
 n_Terms_first : NoAttr K C_Terms "first"
 n_Terms_longest : NoAttr K C_Terms "longest"
 xm_RoadError : XmAt K mg "RoadError" C_RoadError
 xm_BadTerms : XmAt K mg "BadTerms" C_BadTerms
 xm_NotWide : XmAt K mg "NotWide" C_NotWide
 x_BadTerms : XcAt K mg "BadTerms" C_BadTerms C_RoadError none
 g_BadTerms : XgAt K C_BadTerms
 qv_BadTerms : PySem.W.kitOne K (.ref C_BadTerms) (.type "ValueError") = some true
 q_BadTerms_RoadError : PySem.W.kitOne K (.ref C_BadTerms) (.ref C_RoadError) = some true
 m_BadTerms_RoadError : isx K (.ref C_BadTerms) C_RoadError = some true
 q_BadTerms_BadTerms : PySem.W.kitOne K (.ref C_BadTerms) (.ref C_BadTerms) = some true
 m_BadTerms_BadTerms : isx K (.ref C_BadTerms) C_BadTerms = some true
 q_BadTerms_NotWide : PySem.W.kitOne K (.ref C_BadTerms) (.ref C_NotWide) = some false
 m_BadTerms_NotWide : isx K (.ref C_BadTerms) C_NotWide = some false
 x_NotWide : XcI K mg "NotWide" C_NotWide C_RoadError
 g_NotWide : XgAt K C_NotWide
 kp_NotWide : PySem.W.keepIn K (.ref C_NotWide) = true
 xf_NotWide_least : XfAt K C_NotWide "least"
 qv_NotWide : PySem.W.kitOne K (.ref C_NotWide) (.type "ValueError") = some true
 q_NotWide_RoadError : PySem.W.kitOne K (.ref C_NotWide) (.ref C_RoadError) = some true
 m_NotWide_RoadError : isx K (.ref C_NotWide) C_RoadError = some true
 q_NotWide_BadTerms : PySem.W.kitOne K (.ref C_NotWide) (.ref C_BadTerms) = some false
 m_NotWide_BadTerms : isx K (.ref C_NotWide) C_BadTerms = some false
 q_NotWide_NotWide : PySem.W.kitOne K (.ref C_NotWide) (.ref C_NotWide) = some true
 m_NotWide_NotWide : isx K (.ref C_NotWide) C_NotWide = some true
 d_is_from : DefAt K mg "is_from" s_is_from
 d_NotWide___init__ : MethAt K C_NotWide "__init__" "NotWide.__init__" s_NotWide___init__
 d_has_whole_copy : DefAt K mg "has_whole_copy" s_has_whole_copy
 d_fairness : DefAt K mg "fairness" s_fairness
 d_last_turn_of : DefAt K mg "last_turn_of" s_last_turn_of
 d_things_of : DefAt K mg "things_of" s_things_of
 d_things_at_most : DefAt K mg "things_at_most" s_things_at_most
 d_reckoned : DefAt K mg "reckoned" s_reckoned
 d_need : DefAt K mg "need" s_need
 d_are_rooms : DefAt K mg "are_rooms" s_are_rooms
 d_are_waits : DefAt K mg "are_waits" s_are_waits
 d_Terms___init__ : MethAt K C_Terms "__init__" "Terms.__init__" s_Terms___init__
 d__law_whole : DefAt K mg "_law_whole" s__law_whole
 d__law_cell_at : DefAt K mg "_law_cell_at" s__law_cell_at
 d__law_is_row : DefAt K mg "_law_is_row" s__law_is_row
 d__law_digit : DefAt K mg "_law_digit" s__law_digit
 d__law_any_text : DefAt K mg "_law_any_text" s__law_any_text
 d__law_any_deeds : DefAt K mg "_law_any_deeds" s__law_any_deeds
 d__law_any_wishes : DefAt K mg "_law_any_wishes" s__law_any_wishes
 d__law_any_measures : DefAt K mg "_law_any_measures" s__law_any_measures
 d__law_any_roads : DefAt K mg "_law_any_roads" s__law_any_roads
 d__law_mixed : DefAt K mg "_law_mixed" s__law_mixed
 d__law_deeds : DefAt K mg "_law_deeds" s__law_deeds
 d__law_fair : DefAt K mg "_law_fair" s__law_fair
 d__law_wish : DefAt K mg "_law_wish" s__law_wish
 d_law : DefAt K mg "law" s_law
 b_all : mg "all" = none
 b_any : mg "any" = none
 b_bool : mg "bool" = none
 b_enumerate : mg "enumerate" = none
 b_int : mg "int" = none
 b_isinstance : mg "isinstance" = none
 b_len : mg "len" = none
 b_list : mg "list" = none
 b_max : mg "max" = none
 b_range : mg "range" = none
 b_sum : mg "sum" = none
 b_tuple : mg "tuple" = none
 b_zip : mg "zip" = none
 c_SIGNS_MOST : CstAt mg "SIGNS_MOST" (.int 4)
 c_THINGS_OF_BEGIN : CstAt mg "THINGS_OF_BEGIN" (.int 4)
 c_RING_MOST : CstAt mg "RING_MOST" (.int 64)
 c_ROOM_MOST : CstAt mg "ROOM_MOST" (.int 16)
 c_LAG_MOST : CstAt mg "LAG_MOST" (.int 32)
 c_WAIT_LEAST : CstAt mg "WAIT_LEAST" (.int 2)
 c_WAIT_MOST : CstAt mg "WAIT_MOST" (.int 64)
noncomputable section
open PySem W
abbrev Ob := Obj
abbrev Pm := Params
abbrev q (x : String) (k : Nat) : Value := .str (Str.ofString x) k
abbrev tp (x : List Value) : Obj := ⟨.type "tuple", none, .seq x.toArray, #[]⟩
abbrev fm (n m : String) (t : Stmt) := FuncData.mk (Str.ofString n) (Str.ofString m) (L2.defArgs t) (.stmts (L2.defBody t)) (L2.defScope t)
abbrev cd (n : String) (a : Nat) (m : String) (b c : Nat) (l d e f g : Int) (r : Nat) (o : Bool) (k : Int) (s : Nat) (v w x y : Value) (i : Int) (z : Nat) : Ob := ⟨.type "code",none,.fields #[q n a,q m b,q "/claim/cut.py" c,.int l 0,.int d 0,.int e 0,.int f 0,.int g 0,.ref r,.bool o,.int k 0,.ref s,v,w,x,y,.int i 0,.int l 0,q "/claim/cut.py" z],#[]⟩
abbrev f0 (n m : String) (t : Stmt) : Ob := ⟨.none,none,.func (fm n m t 0 [] .none .none .none .none none .none .none 0),#[]⟩
abbrev f1 (n m : String) (t : Stmt) (c : Nat) (v : Value) (r : Nat) : Ob := ⟨.type "function",none,.func (fm n m t c [] .none .none .none v none (.ref r) .none 0),#[]⟩
abbrev den (P : Params) (x : String) (k : Nat) (v : Value) : DictEntry := DictEntry.mk (PyData.keyHash P (Str.ofString x)) (Value.str (Str.ofString x) k) v
def up : List Ob → BT → Nat → BT
 | [], t, _ => t
 | o :: r, t, n => up r (t.ins n o) (n+1)
def ch : List (Nat × Ob) → BT → BT
 | [], t => t
 | p :: r, t => ch r (t.ins p.1 p.2)
def mdl (P : Pm) : List DictEntry := [den P "__doc__" 166 .none,den P "__package__" 167 .none,den P "__loader__" 168 (.builtin "__main__.__loader__#opaque"),den P "__spec__" 169 .none,den P "__annotations__" 170 (.ref 6),den P "__builtins__" 171 (.ref 4),den P "__file__" 173 (q "/claim/cut.py" 172),den P "__cached__" 174 .none,den P "is_from" 197 (.ref 21),den P "RoadError" 217 (.ref 31),den P "BadTerms" 233 (.ref 44),den P "NotWide" 258 (.ref 63),den P "SIGNS_MOST" 260 (.int 4 259),den P "has_whole_copy" 268 (.ref 70),den P "fairness" 274 (.ref 75),den P "last_turn_of" 282 (.ref 80),den P "THINGS_OF_BEGIN" 286 (.int 4 285),den P "things_of" 293 (.ref 87),den P "things_at_most" 299 (.ref 92),den P "reckoned" 305 (.ref 97),den P "need" 315 (.ref 104),den P "RING_MOST" 319 (.int 64 318),den P "ROOM_MOST" 321 (.int 16 320),den P "LAG_MOST" 323 (.int 32 322),den P "WAIT_LEAST" 325 (.int 2 324),den P "WAIT_MOST" 327 (.int 64 326),den P "are_rooms" 333 (.ref 109),den P "are_waits" 341 (.ref 116),den P "Terms" 372 (.ref 131),den P "_law_whole" 381 (.ref 142),den P "_law_cell_at" 389 (.ref 149),den P "_law_is_row" 396 (.ref 156),den P "_law_digit" 405 (.ref 163),den P "_law_any_text" 418 (.ref 170),den P "_law_any_deeds" 432 (.ref 177),den P "_law_any_wishes" 450 (.ref 184),den P "_law_any_measures" 463 (.ref 191),den P "_law_any_roads" 473 (.ref 198),den P "_law_mixed" 482 (.ref 205),den P "_law_deeds" 495 (.ref 212),den P "_law_fair" 501 (.ref 217),den P "_law_wish" 511 (.ref 224),den P "law" 517 (.ref 229)]
abbrev md (P : Pm) (v : Value) (k n : Nat) : Ob := ⟨.type "dict",none,.dict ⟨den P "__name__" 165 v :: (mdl P).take k⟩ n,#[]⟩
def ltl : List Value := [.int 2 0,.int 0 0,.ref 20,.int 5 0,.int 0 0,.ref 27,.int 7 0,.int 0 0,.ref 40,.int 9 0,.int 0 0,.ref 52,.int 15 0,.int 0 0,.ref 69,.int 17 0,.int 0 0,.ref 74,.int 26 0,.int 0 0,.ref 79,.int 30 0,.int 0 0,.ref 86,.int 36 0,.int 0 0,.ref 91,.int 38 0,.int 0 0,.ref 96,.int 48 0,.int 0 0,.ref 103,.int 56 0,.int 0 0,.ref 108,.int 58 0,.int 0 0,.ref 115,.int 60 0,.int 0 0,.ref 122,.int 76 0,.int 0 0,.ref 141,.int 78 0,.int 0 0,.ref 148,.int 82 0,.int 0 0,.ref 155,.int 84 0,.int 0 0,.ref 162,.int 90 0,.int 0 0,.ref 169,.int 98 0,.int 0 0,.ref 176,.int 107 0,.int 0 0,.ref 183,.int 125 0,.int 0 0,.ref 190,.int 135 0,.int 0 0,.ref 197,.int 140 0,.int 0 0,.ref 204,.int 143 0,.int 0 0,.ref 211,.int 155 0,.int 0 0,.ref 216,.int 170 0,.int 0 0,.ref 223,.int 181 0,.int 0 0,.ref 228]
abbrev lt (k : Nat) : Ob := ⟨.none,none,.fields ⟨ltl.take k⟩,#[]⟩
abbrev sO (x : String) : Str := Str.ofString x
def o11:Ob:=tp []
def o12:Ob:=⟨.none,none,.fields #[],#[]⟩
def o13:Ob:=cd "<module>" 182 "<module>" 183 184 1 0 0 0 0 11 false 181 12 .none .none .none .none 185 186
def o14:Ob:=⟨.type "frame",none,.plain,#[some (.ref 13),some (.ref 3),some (.ref 3),none,some (q "__main__" 164),none,some (.ref 0)]⟩
def o15(P:Pm):Ob:=md P (q "slowroad.errors" 198) 12 13
def o16:Ob:=lt 12
def o19:Ob:=tp [q "value" 192,q "low" 193,q "high" 194]
def o21:Ob:=f0 "is_from" "is_from" (top 1)
def o22:Ob:=cd "is_from" 189 "is_from" 190 191 2 3 0 0 3 15 true 181 16 .none (.ref 17) (.ref 18) (.ref 19) 195 196
def o23:Ob:=f1 "is_from" "is_from" (top 1) 3 (q "slowroad.bounds" 187) 20
def o24:Ob:=tp [.type "ValueError"]
def o25:Ob:=⟨.type "builtin_function_or_method",none,.fields #[.builtin "type.__prepare__",.type "type"],#[]⟩
def o26(P:Pm):Ob:=⟨.type "dict",none,.dict #[den P "__module__" 207 (q "slowroad.errors" 198),den P "__qualname__" 209 (q "RoadError" 208),den P "__firstlineno__" 211 (.int 5 210),den P "__static_attributes__" 212 (.ref 29)] 4,#[]⟩
def o29:Ob:=cd "RoadError" 202 "RoadError" 203 204 5 0 0 0 0 25 false 181 26 .none .none .none .none 205 206
def o30:Ob:=⟨.type "frame",none,.plain,#[some (.ref 27),some (.ref 3),some (.ref 24),none,some (q "slowroad.errors" 198),none,some (.ref 0)]⟩
def o32(P:Pm):Ob:=⟨.type "dict",none,.dict #[den P "__module__" 207 (q "slowroad.errors" 198),den P "__firstlineno__" 211 (.int 5 210),den P "__static_attributes__" 212 (.ref 29),den P "__weakref__" 214 (.ref 32),den P "__doc__" 215 .none] 3,#[]⟩
def o33:Ob:=⟨.type "type",none,.cls (.mk (sO "RoadError") [.type "ValueError"] [.ref 31,.type "ValueError",.type "Exception",.type "BaseException",.type "object"] 30 (sO "RoadError") true [] [.ref 44,.ref 63] false none false),#[some (.ref 22),none,some (q "RoadError" 200),some (q "RoadError" 208),some (.builtin "ValueError.__new__"),some (.bool true)]⟩
def o34:Ob:=⟨.type "getset_descriptor",none,.fields #[q "__weakref__" 213,.ref 31,.builtin "ExceptionGroup.__weakref__",.none],#[]⟩
def o35:Ob:=⟨.type "super",none,.fields #[.ref 31,.ref 31,.ref 31],#[]⟩
def o36:Ob:=⟨.type "builtin_function_or_method",none,.fields #[.builtin "object.__init_subclass__",.ref 31],#[]⟩
def o37:Ob:=tp [.ref 31]
def o39(P:Pm):Ob:=⟨.type "dict",none,.dict #[den P "__module__" 225 (q "slowroad.errors" 198),den P "__qualname__" 227 (q "BadTerms" 226),den P "__firstlineno__" 229 (.int 7 228),den P "__static_attributes__" 230 (.ref 42)] 4,#[]⟩
def o42:Ob:=cd "BadTerms" 220 "BadTerms" 221 222 7 0 0 0 0 38 false 181 39 .none .none .none .none 223 224
def o43:Ob:=⟨.type "frame",none,.plain,#[some (.ref 40),some (.ref 3),some (.ref 37),none,some (q "slowroad.errors" 198),none,some (.ref 0)]⟩
def o45(P:Pm):Ob:=⟨.type "dict",none,.dict #[den P "__module__" 225 (q "slowroad.errors" 198),den P "__firstlineno__" 229 (.int 7 228),den P "__static_attributes__" 230 (.ref 42),den P "__doc__" 231 .none] 2,#[]⟩
def o46:Ob:=⟨.type "type",none,.cls (.mk (sO "BadTerms") [.ref 31] [.ref 44,.ref 31,.type "ValueError",.type "Exception",.type "BaseException",.type "object"] 43 (sO "BadTerms") true [] [] false none false),#[some (.ref 35),none,some (q "BadTerms" 218),some (q "BadTerms" 226),some (.builtin "ValueError.__new__"),some (.bool true)]⟩
def o47:Ob:=⟨.type "super",none,.fields #[.ref 44,.ref 44,.ref 44],#[]⟩
def o48:Ob:=⟨.type "builtin_function_or_method",none,.fields #[.builtin "object.__init_subclass__",.ref 44],#[]⟩
def o51(P:Pm):Ob:=⟨.type "dict",none,.dict #[den P "__module__" 241 (q "slowroad.errors" 198),den P "__qualname__" 243 (q "NotWide" 242),den P "__firstlineno__" 245 (.int 9 244),den P "__init__" 253 (.ref 60),den P "__static_attributes__" 255 (.ref 61)] 5,#[]⟩
def o53:Ob:=⟨.none,none,.fields #[.int 11 0,.int 4 0,.ref 59],#[]⟩
def o54:Ob:=cd "NotWide" 236 "NotWide" 237 238 9 0 0 0 0 50 false 181 51 .none .none .none .none 239 240
def o55:Ob:=⟨.type "frame",none,.plain,#[some (.ref 52),some (.ref 3),some (.ref 49),none,some (q "slowroad.errors" 198),none,some (.ref 0)]⟩
def o58:Ob:=tp [q "self" 249,q "least" 250]
def o60:Ob:=f0 "__init__" "NotWide.__init__" (inClass (top 5) 0)
def o61:Ob:=cd "__init__" 246 "NotWide.__init__" 247 248 11 2 0 0 3 54 true 181 55 .none (.ref 56) (.ref 57) (.ref 58) 251 252
def o62:Ob:=f1 "__init__" "NotWide.__init__" (inClass (top 5) 0) 3 (q "slowroad.errors" 198) 59
def o63:Ob:=tp [q "least" 254]
def o64(P:Pm):Ob:=⟨.type "dict",none,.dict #[den P "__module__" 241 (q "slowroad.errors" 198),den P "__firstlineno__" 245 (.int 9 244),den P "__init__" 253 (.ref 60),den P "__static_attributes__" 255 (.ref 61),den P "__doc__" 256 .none] 2,#[]⟩
def o65:Ob:=⟨.type "type",none,.cls (.mk (sO "NotWide") [.ref 31] [.ref 63,.ref 31,.type "ValueError",.type "Exception",.type "BaseException",.type "object"] 62 (sO "NotWide") true [] [] false none false),#[some (.ref 47),none,some (q "NotWide" 234),some (q "NotWide" 242),some (.builtin "ValueError.__new__"),some (.bool true)]⟩
def o66:Ob:=⟨.type "super",none,.fields #[.ref 63,.ref 63,.ref 63],#[]⟩
def o67:Ob:=⟨.type "builtin_function_or_method",none,.fields #[.builtin "object.__init_subclass__",.ref 63],#[]⟩
def o68(P:Pm):Ob:=md P (q "law_slowroad_k72_reckoned" 373) 32 33
def o69:Ob:=lt 51
def o72:Ob:=f0 "has_whole_copy" "has_whole_copy" (top 8)
def o73:Ob:=cd "has_whole_copy" 263 "has_whole_copy" 264 265 15 1 0 0 3 66 true 181 67 .none .none .none (.ref 68) 266 267
def o74:Ob:=f1 "has_whole_copy" "has_whole_copy" (top 8) 3 (q "slowroad.roads" 261) 69
def o77:Ob:=f0 "fairness" "fairness" (top 9)
def o78:Ob:=cd "fairness" 269 "fairness" 270 271 17 1 0 0 3 71 true 181 72 .none .none .none (.ref 73) 272 273
def o79:Ob:=f1 "fairness" "fairness" (top 9) 3 (q "slowroad.roads" 261) 74
def o82:Ob:=f0 "last_turn_of" "last_turn_of" (top 11)
def o83:Ob:=cd "last_turn_of" 277 "last_turn_of" 278 279 26 1 0 0 3 76 true 181 77 .none .none .none (.ref 78) 280 281
def o84:Ob:=f1 "last_turn_of" "last_turn_of" (top 11) 3 (q "slowroad.walk" 275) 79
def o87:Ob:=tp [q "wish" 290]
def o89:Ob:=f0 "things_of" "things_of" (top 14)
def o90:Ob:=cd "things_of" 287 "things_of" 288 289 30 1 0 0 3 81 true 181 82 .none (.ref 83) (.ref 84) (.ref 85) 291 292
def o91:Ob:=f1 "things_of" "things_of" (top 14) 3 (q "slowroad.reckon" 283) 86
def o94:Ob:=f0 "things_at_most" "things_at_most" (top 15)
def o95:Ob:=cd "things_at_most" 294 "things_at_most" 295 296 36 1 0 0 3 88 true 181 89 .none .none .none (.ref 90) 297 298
def o96:Ob:=f1 "things_at_most" "things_at_most" (top 15) 3 (q "slowroad.reckon" 283) 91
def o99:Ob:=f0 "reckoned" "reckoned" (top 16)
def o100:Ob:=cd "reckoned" 300 "reckoned" 301 302 38 3 0 0 3 93 true 181 94 .none .none .none (.ref 95) 303 304
def o101:Ob:=f1 "reckoned" "reckoned" (top 16) 3 (q "slowroad.reckon" 283) 96
def o104:Ob:=tp [q "room" 311,q "lag" 312]
def o106:Ob:=f0 "need" "need" (top 18)
def o107:Ob:=cd "need" 308 "need" 309 310 48 2 0 0 3 98 true 181 99 .none (.ref 100) (.ref 101) (.ref 102) 313 314
def o108:Ob:=f1 "need" "need" (top 18) 3 (q "slowroad.fooling" 306) 103
def o111:Ob:=f0 "are_rooms" "are_rooms" (top 25)
def o112:Ob:=cd "are_rooms" 328 "are_rooms" 329 330 56 1 0 0 3 105 true 181 106 .none .none .none (.ref 107) 331 332
def o113:Ob:=f1 "are_rooms" "are_rooms" (top 25) 3 (q "slowroad.terms" 316) 108
def o116:Ob:=tp [q "first" 337,q "longest" 338]
def o118:Ob:=f0 "are_waits" "are_waits" (top 26)
def o119:Ob:=cd "are_waits" 334 "are_waits" 335 336 58 2 0 0 3 110 true 181 111 .none (.ref 112) (.ref 113) (.ref 114) 339 340
def o120:Ob:=f1 "are_waits" "are_waits" (top 26) 3 (q "slowroad.terms" 316) 115
def o123(P:Pm):Ob:=⟨.type "dict",none,.dict #[den P "__module__" 349 (q "slowroad.terms" 316),den P "__qualname__" 351 (q "Terms" 350),den P "__firstlineno__" 353 (.int 60 352),den P "__init__" 359 (.ref 128),den P "__static_attributes__" 365 (.ref 129)] 5,#[]⟩
def o125:Ob:=⟨.none,none,.fields #[.int 62 0,.int 4 0,.ref 127],#[]⟩
def o126:Ob:=cd "Terms" 344 "Terms" 345 346 60 0 0 0 0 120 false 181 121 .none .none .none .none 347 348
def o127:Ob:=⟨.type "frame",none,.plain,#[some (.ref 122),some (.ref 3),some (.ref 119),none,some (q "slowroad.terms" 316),none,some (.ref 0)]⟩
def o130:Ob:=f0 "__init__" "Terms.__init__" (inClass (top 27) 0)
def o131:Ob:=cd "__init__" 354 "Terms.__init__" 355 356 62 6 0 0 3 124 true 181 125 .none .none .none (.ref 126) 357 358
def o132:Ob:=f1 "__init__" "Terms.__init__" (inClass (top 27) 0) 3 (q "slowroad.terms" 316) 127
def o133:Ob:=tp [q "first" 360,q "lag" 361,q "longest" 362,q "ring" 363,q "rooms" 364]
def o134(P:Pm):Ob:=⟨.type "dict",none,.dict #[den P "__module__" 349 (q "slowroad.terms" 316),den P "__firstlineno__" 353 (.int 60 352),den P "__init__" 359 (.ref 128),den P "__static_attributes__" 365 (.ref 129),den P "__dict__" 367 (.ref 132),den P "__weakref__" 369 (.ref 133),den P "__doc__" 370 .none] 4,#[]⟩
def o135:Ob:=⟨.type "type",none,.cls (.mk (sO "Terms") [.type "object"] [.ref 131,.type "object"] 130 (sO "Terms") true [] [] false none false),#[none,none,some (q "Terms" 342),some (q "Terms" 350),some (.builtin "object.__new__"),some (.bool true)]⟩
def o136:Ob:=⟨.type "getset_descriptor",none,.fields #[q "__dict__" 366,.ref 131,.builtin "function.__dict__",.builtin "function.__dict__#set"],#[]⟩
def o137:Ob:=⟨.type "getset_descriptor",none,.fields #[q "__weakref__" 368,.ref 131,.builtin "ExceptionGroup.__weakref__",.none],#[]⟩
def o138:Ob:=⟨.type "super",none,.fields #[.ref 131,.ref 131,.ref 131],#[]⟩
def o139:Ob:=⟨.type "builtin_function_or_method",none,.fields #[.builtin "object.__init_subclass__",.ref 131],#[]⟩
def o142:Ob:=tp [q "_law_found" 378]
def o144:Ob:=f0 "_law_whole" "_law_whole" (top 29)
def o145:Ob:=cd "_law_whole" 375 "_law_whole" 376 377 76 1 0 0 3 136 true 181 137 .none (.ref 138) (.ref 139) (.ref 140) 379 380
def o146:Ob:=f1 "_law_whole" "_law_whole" (top 29) 3 (q "law_slowroad_k72_reckoned" 373) 141
def o149:Ob:=tp [q "_law_script" 385,q "_law_k" 386]
def o151:Ob:=f0 "_law_cell_at" "_law_cell_at" (top 30)
def o152:Ob:=cd "_law_cell_at" 382 "_law_cell_at" 383 384 78 2 0 0 3 143 true 181 144 .none (.ref 145) (.ref 146) (.ref 147) 387 388
def o153:Ob:=f1 "_law_cell_at" "_law_cell_at" (top 30) 3 (q "law_slowroad_k72_reckoned" 373) 148
def o156:Ob:=tp [q "_law_cell" 393]
def o158:Ob:=f0 "_law_is_row" "_law_is_row" (top 31)
def o159:Ob:=cd "_law_is_row" 390 "_law_is_row" 391 392 82 1 0 0 3 150 true 181 151 .none (.ref 152) (.ref 153) (.ref 154) 394 395
def o160:Ob:=f1 "_law_is_row" "_law_is_row" (top 31) 3 (q "law_slowroad_k72_reckoned" 373) 155
def o161(P:Pm):Ob:=⟨.type "dict",none,.dict #[den P "__name__" 165 (q "law_slowroad_k72_reckoned" 373),den P "__doc__" 166 .none,den P "__package__" 167 .none,den P "__loader__" 168 (.builtin "__main__.__loader__#opaque"),den P "__spec__" 169 .none,den P "__annotations__" 170 (.ref 6),den P "__builtins__" 171 (.ref 4),den P "__file__" 173 (q "/claim/cut.py" 172),den P "__cached__" 174 .none,den P "is_from" 197 (.ref 21),den P "RoadError" 217 (.ref 31),den P "BadTerms" 233 (.ref 44),den P "NotWide" 258 (.ref 63),den P "SIGNS_MOST" 260 (.int 4 259),den P "has_whole_copy" 268 (.ref 70),den P "fairness" 274 (.ref 75),den P "last_turn_of" 282 (.ref 80),den P "THINGS_OF_BEGIN" 286 (.int 4 285),den P "things_of" 293 (.ref 87),den P "things_at_most" 299 (.ref 92),den P "reckoned" 305 (.ref 97),den P "need" 315 (.ref 104),den P "RING_MOST" 319 (.int 64 318),den P "ROOM_MOST" 321 (.int 16 320),den P "LAG_MOST" 323 (.int 32 322),den P "WAIT_LEAST" 325 (.int 2 324),den P "WAIT_MOST" 327 (.int 64 326),den P "are_rooms" 333 (.ref 109),den P "are_waits" 341 (.ref 116),den P "Terms" 372 (.ref 131),den P "_law_whole" 381 (.ref 142),den P "_law_cell_at" 389 (.ref 149),den P "_law_is_row" 396 (.ref 156),den P "_law_digit" 405 (.ref 163),den P "_law_any_text" 418 (.ref 170),den P "_law_any_deeds" 432 (.ref 177),den P "_law_any_wishes" 450 (.ref 184),den P "_law_any_measures" 463 (.ref 191),den P "_law_any_roads" 473 (.ref 198),den P "_law_mixed" 482 (.ref 205),den P "_law_deeds" 495 (.ref 212),den P "_law_fair" 501 (.ref 217),den P "_law_wish" 511 (.ref 224),den P "law" 517 (.ref 229)] 44,#[]⟩
def o162:Ob:=lt 84
def o165:Ob:=tp [q "_law_cell" 400,q "_law_k" 401,q "_law_number" 402]
def o167:Ob:=f0 "_law_digit" "_law_digit" (top 32)
def o168:Ob:=cd "_law_digit" 397 "_law_digit" 398 399 84 2 0 0 3 157 true 181 158 .none (.ref 159) (.ref 160) (.ref 161) 403 404
def o169:Ob:=f1 "_law_digit" "_law_digit" (top 32) 3 (q "law_slowroad_k72_reckoned" 373) 162
def o172:Ob:=tp [q "_law_cell" 409,q "_law_k" 410,q "_law_size" 411,q "_law_some" 412,q "_law_text" 413,q "_law_j" 414,q "_law_number" 415]
def o174:Ob:=f0 "_law_any_text" "_law_any_text" (top 33)
def o175:Ob:=cd "_law_any_text" 406 "_law_any_text" 407 408 90 3 0 0 3 164 true 181 165 .none (.ref 166) (.ref 167) (.ref 168) 416 417
def o176:Ob:=f1 "_law_any_text" "_law_any_text" (top 33) 3 (q "law_slowroad_k72_reckoned" 373) 169
def o179:Ob:=tp [q "_law_cell" 422,q "_law_lag" 423,q "_law_many" 424,q "_law_deeds_here" 425,q "_law_k" 426,q "_law_deed" 427,q "_law_j" 428,q "_law_number" 429]
def o181:Ob:=f0 "_law_any_deeds" "_law_any_deeds" (top 34)
def o182:Ob:=cd "_law_any_deeds" 419 "_law_any_deeds" 420 421 98 3 0 0 3 171 true 181 172 .none (.ref 173) (.ref 174) (.ref 175) 430 431
def o183:Ob:=f1 "_law_any_deeds" "_law_any_deeds" (top 34) 3 (q "law_slowroad_k72_reckoned" 373) 176
def o186:Ob:=tp [q "_law_cell" 436,q "_law_most" 437,q "_law_far" 438,q "_law_longest_text" 439,q "_law_wishes" 440,q "_law_k" 441,q "_law_number" 442,q "_law_turn" 443,q "_law_side" 444,q "_law_way" 445,q "_law_size" 446,q "_law_text" 447]
def o188:Ob:=f0 "_law_any_wishes" "_law_any_wishes" (top 35)
def o189:Ob:=cd "_law_any_wishes" 433 "_law_any_wishes" 434 435 107 4 0 0 3 178 true 181 179 .none (.ref 180) (.ref 181) (.ref 182) 448 449
def o190:Ob:=f1 "_law_any_wishes" "_law_any_wishes" (top 35) 3 (q "law_slowroad_k72_reckoned" 373) 183
def o193:Ob:=tp [q "_law_cell" 454,q "_law_number" 455,q "_law_rooms" 456,q "_law_lag" 457,q "_law_least" 458,q "_law_longest" 459,q "_law_first" 460]
def o195:Ob:=f0 "_law_any_measures" "_law_any_measures" (top 36)
def o196:Ob:=cd "_law_any_measures" 451 "_law_any_measures" 452 453 125 1 0 0 3 185 true 181 186 .none (.ref 187) (.ref 188) (.ref 189) 461 462
def o197:Ob:=f1 "_law_any_measures" "_law_any_measures" (top 36) 3 (q "law_slowroad_k72_reckoned" 373) 190
def o200:Ob:=tp [q "_law_script" 467,q "_law_lag" 468,q "_law_roads" 469,q "_law_cell" 470]
def o202:Ob:=f0 "_law_any_roads" "_law_any_roads" (top 37)
def o203:Ob:=cd "_law_any_roads" 464 "_law_any_roads" 465 466 135 2 0 0 3 192 true 181 193 .none (.ref 194) (.ref 195) (.ref 196) 471 472
def o204:Ob:=f1 "_law_any_roads" "_law_any_roads" (top 37) 3 (q "law_slowroad_k72_reckoned" 373) 197
def o207:Ob:=tp [q "_law_cell" 477,q "_law_k" 478,q "_law_number" 479]
def o209:Ob:=f0 "_law_mixed" "_law_mixed" (top 38)
def o210:Ob:=cd "_law_mixed" 474 "_law_mixed" 475 476 140 2 0 0 3 199 true 181 200 .none (.ref 201) (.ref 202) (.ref 203) 480 481
def o211:Ob:=f1 "_law_mixed" "_law_mixed" (top 38) 3 (q "law_slowroad_k72_reckoned" 373) 204
def o214:Ob:=tp [q "_law_cell" 486,q "_law_lag" 487,q "_law_number" 488,q "_law_deeds_here" 489,q "_law_k" 490,q "_law_whole_here" 491,q "_law_spoilt" 492]
def o216:Ob:=f0 "_law_deeds" "_law_deeds" (top 39)
def o217:Ob:=cd "_law_deeds" 483 "_law_deeds" 484 485 143 2 0 0 3 206 true 181 207 .none (.ref 208) (.ref 209) (.ref 210) 493 494
def o218:Ob:=f1 "_law_deeds" "_law_deeds" (top 39) 3 (q "law_slowroad_k72_reckoned" 373) 211
def o221:Ob:=f0 "_law_fair" "_law_fair" (top 40)
def o222:Ob:=cd "_law_fair" 496 "_law_fair" 497 498 155 1 0 0 3 213 true 181 214 .none .none .none (.ref 215) 499 500
def o223:Ob:=f1 "_law_fair" "_law_fair" (top 40) 3 (q "law_slowroad_k72_reckoned" 373) 216
def o226:Ob:=tp [q "_law_cell" 505,q "_law_number" 506,q "_law_turn" 507,q "_law_way" 508]
def o228:Ob:=f0 "_law_wish" "_law_wish" (top 41)
def o229:Ob:=cd "_law_wish" 502 "_law_wish" 503 504 170 1 0 0 3 218 true 181 219 .none (.ref 220) (.ref 221) (.ref 222) 509 510
def o230:Ob:=f1 "_law_wish" "_law_wish" (top 41) 3 (q "law_slowroad_k72_reckoned" 373) 223
def o233:Ob:=f0 "law" "law" (top 42)
def o234:Ob:=cd "law" 512 "law" 513 514 181 1 0 0 3 225 true 181 226 .none .none .none (.ref 227) 515 516
def o235:Ob:=f1 "law" "law" (top 42) 3 (q "law_slowroad_k72_reckoned" 373) 228
def hdK : Params → Frag := fun P => (nat_lit 2,boot_o_2 P)::(nat_lit 3,o161 P)::(nat_lit 15,o11)::(nat_lit 17,o19)::(nat_lit 18,o11)::(nat_lit 20,o22)::(nat_lit 21,o23)::(nat_lit 22,o24)::(nat_lit 29,o11)::(nat_lit 30,o32 P)::(nat_lit 31,o33)::(nat_lit 32,o34)::(nat_lit 35,o37)::(nat_lit 42,o11)::(nat_lit 43,o45 P)::(nat_lit 44,o46)::(nat_lit 47,o37)::(nat_lit 54,o11)::(nat_lit 56,o58)::(nat_lit 57,o11)::(nat_lit 59,o61)::(nat_lit 60,o62)::(nat_lit 61,o63)::(nat_lit 62,o64 P)::(nat_lit 63,o65)::(nat_lit 66,o11)::(nat_lit 69,o73)::(nat_lit 70,o74)::(nat_lit 71,o11)::(nat_lit 74,o78)::(nat_lit 75,o79)::(nat_lit 76,o11)::(nat_lit 79,o83)::(nat_lit 80,o84)::(nat_lit 81,o11)::(nat_lit 83,o87)::(nat_lit 84,o11)::(nat_lit 86,o90)::(nat_lit 87,o91)::(nat_lit 88,o11)::(nat_lit 91,o95)::(nat_lit 92,o96)::(nat_lit 93,o11)::(nat_lit 96,o100)::(nat_lit 97,o101)::(nat_lit 98,o11)::(nat_lit 100,o104)::(nat_lit 101,o11)::(nat_lit 103,o107)::(nat_lit 104,o108)::(nat_lit 105,o11)::(nat_lit 108,o112)::(nat_lit 109,o113)::(nat_lit 110,o11)::(nat_lit 112,o116)::(nat_lit 113,o11)::(nat_lit 115,o119)::(nat_lit 116,o120)::(nat_lit 124,o11)::(nat_lit 127,o131)::(nat_lit 128,o132)::(nat_lit 129,o133)::(nat_lit 130,o134 P)::(nat_lit 131,o135)::(nat_lit 132,o136)::(nat_lit 133,o137)::(nat_lit 136,o11)::(nat_lit 138,o142)::(nat_lit 139,o11)::(nat_lit 141,o145)::(nat_lit 142,o146)::(nat_lit 143,o11)::(nat_lit 145,o149)::(nat_lit 146,o11)::(nat_lit 148,o152)::(nat_lit 149,o153)::(nat_lit 150,o11)::(nat_lit 152,o156)::(nat_lit 153,o11)::(nat_lit 155,o159)::(nat_lit 156,o160)::(nat_lit 157,o11)::(nat_lit 159,o165)::(nat_lit 160,o11)::(nat_lit 162,o168)::(nat_lit 163,o169)::(nat_lit 164,o11)::(nat_lit 166,o172)::(nat_lit 167,o11)::(nat_lit 169,o175)::(nat_lit 170,o176)::(nat_lit 171,o11)::(nat_lit 173,o179)::(nat_lit 174,o11)::(nat_lit 176,o182)::(nat_lit 177,o183)::(nat_lit 178,o11)::(nat_lit 180,o186)::(nat_lit 181,o11)::(nat_lit 183,o189)::(nat_lit 184,o190)::(nat_lit 185,o11)::(nat_lit 187,o193)::(nat_lit 188,o11)::(nat_lit 190,o196)::(nat_lit 191,o197)::(nat_lit 192,o11)::(nat_lit 194,o200)::(nat_lit 195,o11)::(nat_lit 197,o203)::(nat_lit 198,o204)::(nat_lit 199,o11)::(nat_lit 201,o207)::(nat_lit 202,o11)::(nat_lit 204,o210)::(nat_lit 205,o211)::(nat_lit 206,o11)::(nat_lit 208,o214)::(nat_lit 209,o11)::(nat_lit 211,o217)::(nat_lit 212,o218)::(nat_lit 213,o11)::(nat_lit 216,o222)::(nat_lit 217,o223)::(nat_lit 218,o11)::(nat_lit 220,o226)::(nat_lit 221,o11)::(nat_lit 223,o229)::(nat_lit 224,o230)::(nat_lit 225,o11)::(nat_lit 228,o234)::(nat_lit 229,o235)::[]
def hdView : Program := { Challenge.pw_slowroad_k72_reckoned with main := { Challenge.pw_slowroad_k72_reckoned.main with body := [top 1, top 3, top 4, top 5, top 6, top 8, top 9, top 11, top 13, top 14, top 15, top 16, top 18, top 20, top 21, top 22, top 23, top 24, top 25, top 26, top 27, top 29, top 30, top 31, top 32, top 33, top 34, top 35, top 36, top 37, top 38, top 39, top 40, top 41, top 42] } }
def hdAdr : List Addr := [2, 3, 15, 17, 18, 20, 21, 22, 29, 30, 31, 32, 35, 42, 43, 44, 47, 54, 56, 57, 59, 60, 61, 62, 63, 66, 69, 70, 71, 74, 75, 76, 79, 80, 81, 83, 84, 86, 87, 88, 91, 92, 93, 96, 97, 98, 100, 101, 103, 104, 105, 108, 109, 110, 112, 113, 115, 116, 124, 127, 128, 129, 130, 131, 132, 133, 136, 138, 139, 141, 142, 143, 145, 146, 148, 149, 150, 152, 153, 155, 156, 157, 159, 160, 162, 163, 164, 166, 167, 169, 170, 171, 173, 174, 176, 177, 178, 180, 181, 183, 184, 185, 187, 188, 190, 191, 192, 194, 195, 197, 198, 199, 201, 202, 204, 205, 206, 208, 209, 211, 212, 213, 216, 217, 218, 220, 221, 223, 224, 225, 228, 229]
theorem hd_he : ∀ P, hdAdr = (hdK P).map (·.1) := fun _ => by kernel_rfl
def hdEnv : Env := { scope := Challenge.rw_slowroad_k72_reckoned.row.prog.main.scope, locals := mainNs, globals := mainNs, cells := [], code := Value.ref 13, frame := some 14 }
def hdBody : List Stmt := behindTheImports Challenge.rw_slowroad_k72_reckoned.row.prog
def hdC : Code := .body hdBody hdEnv
abbrev hdB : List Frame := [topFrame (Pos.mk 0 0 0 0)]
abbrev hdn : Option Value := Option.some (Value.ref 6)
def hpre : Params → Heap := fun P => ⟨Array.mk [boot_o_0 P, boot_o_1 P, boot_o_2 P, boot_o_3 P, boot_o_4 P, boot_o_5 P, boot_o_6 P, boot_o_7 P, boot_o_8 P, boot_o_9 P, boot_o_10 P, o11, o12, o13, o14], Life.mk List.nil List.nil List.nil 0 List.nil List.nil Bool.false (List.toArray List.nil) List.nil 0 Bool.false Bool.false Bool.false 0 (List.cons 2000 (List.cons 10 (List.cons 10 List.nil))) Bool.false 0 Bool.true List.nil List.nil 0 Bool.false⟩
theorem hd_pre (w : World) (os : OsState) : topGo treeTable Challenge.rw_slowroad_k72_reckoned.row.prog w 11 hdn 12 (⟨boot_heap w.params, Array.mk [], boot_drawn, boot_toks, os⟩ : Shared) (topStub Challenge.rw_slowroad_k72_reckoned.row.prog) = some ((⟨hpre w.params, Array.mk [], Drawn.mk 0 0 0 0, 187, os⟩ : Shared), ⟨denote treeTable hdC, hdC, Pos.mk 0 0 0 0, hdB⟩) := by kernel_rfl
def ht_block (P : Pm) : BT := up [boot_o_0 P,boot_o_1 P,boot_o_2 P,boot_o_3 P,boot_o_4 P,boot_o_5 P,boot_o_6 P,boot_o_7 P,boot_o_8 P,boot_o_9 P,boot_o_10 P,o11,o12,o13,o14] .nil 0
abbrev lif : Life := Life.mk List.nil List.nil List.nil 0 List.nil List.nil Bool.false (List.toArray List.nil) List.nil 0 Bool.false Bool.false Bool.false 0 (List.cons 2000 (List.cons 10 (List.cons 10 List.nil))) Bool.false 0 Bool.true List.nil List.nil 0 Bool.false
abbrev hs_block (w : World) (os : OsState) : SharedT := SharedT.mk (ht_block w.params) 15 lif (Array.mk []) (Drawn.mk 0 0 0 0) 187 os
theorem hd_blk (w : World) (os : OsState) : segRun treeTable Challenge.rw_slowroad_k72_reckoned.row.prog w 11 hdn 1 1 (⟨hpre w.params, Array.mk [], Drawn.mk 0 0 0 0, 187, os⟩ : Shared) (blockOf hdBody hdEnv hdC (Pos.mk 0 0 0 0) hdB) = some (.next, ((hs_block w os)).abs, hdC, Pos.mk 0 0 0 0) := by kernel_rfl
def ht_g6 (P : Pm) : BT := up [o11,o12,o19,o11,o21,o22,o23,o24,o25,o26 P,o11,o12,o29,o30,o11,o32 P,o33,o34,o35,o36,o37,o25,o39 P,o11,o12,o42,o43,o11,o45 P,o46,o47,o48,o37,o25,o51 P,o11,o53,o54,o55,o11,o12,o58,o11,o60,o61,o62,o63,o64 P,o65,o66,o67] (ch [(3,o15 P),(12,o16)] (ht_block P)) 15
abbrev hs_g6 (w : World) (os : OsState) : SharedT := SharedT.mk (ht_g6 w.params) 66 lif (Array.mk []) (Drawn.mk 0 0 0 0) 259 os
def hg6 : List Stmt := (hdBody.drop 0).take 6
theorem hd_g6 (w : World) (os : OsState) : segRunT treeTable Challenge.rw_slowroad_k72_reckoned.row.prog w 11 hdn 1 694 (hs_block w os) (piecesOf hg6 hdEnv hdC (Pos.mk 0 0 0 0) hdB) = some (.next, (hs_g6 w os), hdC, Pos.mk 9 0 12 26) := by kernel_rfl
def ht_g32 (P : Pm) : BT := up [o11,o12,o72,o73,o74,o11,o12,o77,o78,o79,o11,o12,o82,o83,o84,o11,o12,o87,o11,o89,o90,o91,o11,o12,o94,o95,o96,o11,o12,o99,o100,o101,o11,o12,o104,o11,o106,o107,o108,o11,o12,o111,o112,o113,o11,o12,o116,o11,o118,o119,o120,o11,o25,o123 P,o11,o125,o126,o127,o11,o12,o130,o131,o132,o133,o134 P,o135,o136,o137,o138,o139,o11,o12,o142,o11,o144,o145,o146,o11,o12,o149,o11,o151,o152,o153,o11,o12,o156,o11,o158,o159,o160] (ch [(3,o68 P),(12,o69)] (ht_g6 P)) 66
abbrev hs_g32 (w : World) (os : OsState) : SharedT := SharedT.mk (ht_g32 w.params) 157 lif (Array.mk []) (Drawn.mk 0 0 0 0) 397 os
def hg32 : List Stmt := (hdBody.drop 6).take 26
theorem hd_g32 (w : World) (os : OsState) : segRunT treeTable Challenge.rw_slowroad_k72_reckoned.row.prog w 11 hdn 1 673 (hs_g6 w os) (piecesOf hg32 hdEnv hdC (Pos.mk 9 0 12 26) hdB) = some (.next, (hs_g32 w os), hdC, Pos.mk 82 0 83 54) := by kernel_rfl
def ht_g43 (P : Pm) : BT := up [o11,o12,o165,o11,o167,o168,o169,o11,o12,o172,o11,o174,o175,o176,o11,o12,o179,o11,o181,o182,o183,o11,o12,o186,o11,o188,o189,o190,o11,o12,o193,o11,o195,o196,o197,o11,o12,o200,o11,o202,o203,o204,o11,o12,o207,o11,o209,o210,o211,o11,o12,o214,o11,o216,o217,o218,o11,o12,o221,o222,o223,o11,o12,o226,o11,o228,o229,o230,o11,o12,o233,o234,o235] (ch [(3,o161 P),(12,o162)] (ht_g32 P)) 157
abbrev hs_g43 (w : World) (os : OsState) : SharedT := SharedT.mk (ht_g43 w.params) 230 lif (Array.mk []) (Drawn.mk 0 0 0 0) 518 os
def hg43 : List Stmt := (hdBody.drop 32).take 11
theorem hd_g43 (w : World) (os : OsState) : segRunT treeTable Challenge.rw_slowroad_k72_reckoned.row.prog w 11 hdn 1 360 (hs_g32 w os) (piecesOf hg43 hdEnv hdC (Pos.mk 82 0 83 54) hdB) = some (.next, (hs_g43 w os), hdC, Pos.mk 181 0 215 60) := by kernel_rfl
def hfin : Pm → Heap := fun P => ⟨Array.mk ((ht_g43 P).list 230), Life.mk List.nil List.nil List.nil 0 List.nil List.nil Bool.false (List.toArray List.nil) List.nil 0 Bool.false Bool.false Bool.false 0 (List.cons 2000 (List.cons 10 (List.cons 10 List.nil))) Bool.false 0 Bool.true List.nil List.nil 0 Bool.false⟩
theorem hd_fin (w : World) (os : OsState) : topRun treeTable Challenge.rw_slowroad_k72_reckoned.row.prog w 11 hdn 2 ((hs_g43 w os)).abs ⟨doneF .next, hdC, Pos.mk 181 0 215 60, hdB⟩ = some (⟨hfin w.params, Array.mk [], Drawn.mk 0 0 0 0, 518, os⟩ : Shared) := by kernel_rfl
theorem hd_body : hdBody = hg6 ++ (hg32 ++ (hg43 ++ ([]))) := by kernel_rfl
theorem hd_rest (w : World) (os : OsState) : topRun treeTable Challenge.rw_slowroad_k72_reckoned.row.prog w 11 hdn 1729 ((hs_block w os)).abs (restOf hdBody hdEnv hdC (Pos.mk 0 0 0 0) hdB) = some (⟨hfin w.params, Array.mk [], Drawn.mk 0 0 0 0, 518, os⟩ : Shared) := by
 rw [hd_body]; exact (piece_app (segRun_of (hd_g6 w os)) (piece_app (segRun_of (hd_g32 w os)) (piece_app (segRun_of (hd_g43 w os)) (piece_nil (hd_fin w os)))))
theorem hd_run (w : World) (os : OsState) : topRun treeTable Challenge.rw_slowroad_k72_reckoned.row.prog w 11 hdn 1742 (⟨boot_heap w.params, Array.mk [], boot_drawn, boot_toks, os⟩ : Shared) (topStub Challenge.rw_slowroad_k72_reckoned.row.prog) = some (⟨hfin w.params, Array.mk [], Drawn.mk 0 0 0 0, 518, os⟩ : Shared) := go_top (n := 12) (N := 1730) (hd_pre w os) (piece_block (n := 1) (N := 1729) (hd_blk w os) (hd_rest w os))
theorem hd_open : ∀ w : World, (fencedOpening treeTable Challenge.rw_slowroad_k72_reckoned.row.prog w 3574).map (fun s => (s.heap, s.gens, s.drawn, s.toks)) = some (boot_heap w.params, Array.mk [], boot_drawn, boot_toks) := boot_open rfl (by decide) (fun s => rfl)
theorem hd_size : ∀ w : World, ((boot_heap w.params).isNs mainGlobals && (Array.mk [] : Array GenState).size == 0, (boot_heap w.params).objs.size, (boot_heap w.params).nsMap mainGlobals "__annotations__") = (true, 11, hdn) := fun w => by kernel_rfl
theorem hd_l1 (w : World) (os : OsState) : (staticsOk (importedModules Challenge.rw_slowroad_k72_reckoned.row.prog.main.body) (boot_heap w.params) (hfin w.params) && namesBound Challenge.rw_slowroad_k72_reckoned.row.prog (hfin w.params) && gensDone (⟨hfin w.params, Array.mk [], Drawn.mk 0 0 0 0, 518, os⟩ : Shared) && laidKept (boot_heap w.params) (hfin w.params)) = true := by kernel_rfl
theorem hd_l2 (w : World) (os : OsState) : openSeen hdView [] (importedModules Challenge.rw_slowroad_k72_reckoned.row.prog.main.body) (fun s => xlAt hdView [] s && recOk Challenge.rw_slowroad_k72_reckoned.row.records s) true (⟨hfin w.params, Array.mk [], Drawn.mk 0 0 0 0, 518, os⟩ : Shared) = openGood hdView [] := by kernel_rfl
theorem hd_l3 (w : World) (os : OsState) : (kHook hdK hdAdr hd_he).obs (⟨hfin w.params, Array.mk [], Drawn.mk 0 0 0 0, 518, os⟩ : Shared) = (kHook hdK hdAdr hd_he).val w := by kernel_rfl
theorem hd_hl : ∀ w : World, Option.map (fun s => (openSeen hdView [] (importedModules Challenge.rw_slowroad_k72_reckoned.row.prog.main.body) (fun s => xlAt hdView [] s && recOk Challenge.rw_slowroad_k72_reckoned.row.records s) true s, (kHook hdK hdAdr hd_he).obs s)) (openEnds treeTable Challenge.rw_slowroad_k72_reckoned.row.prog w 3574) = some (openGood hdView [], (kHook hdK hdAdr hd_he).val w) := LeftO.of_pieces (H₀ := boot_heap) (H₁ := hfin) hd_open hd_size hd_run (by decide) (fun w => funext fun os => looks_pair (hd_l1 w os) (looks_pair (hd_l2 w os) (hd_l3 w os)))
end
noncomputable def sp_is_from  : Sp := fun vs H Q E => match vs with
 | [.int v, .int l, .int h] => Q (.bl (fromB v l h)) H
 | _ => False
theorem fromB_iff {v l h : Int} : fromB v l h = true ↔ l ≤ v ∧ v ≤ h := by
 unfold fromB
 rw [Bool.and_eq_true, decide_eq_true_eq, decide_eq_true_eq]
theorem fromB_t {v l h : Int} (c : l ≤ v ∧ v ≤ h) : fromB v l h = true := fromB_iff.mpr c
theorem fromB_f {v l h : Int} (c : ¬ (l ≤ v ∧ v ≤ h)) : fromB v l h = false := by
 cases e : fromB v l h
 ·rfl
 ·exact absurd (fromB_iff.mp e) c
noncomputable def needF (r l : Int) : Int := if r = 1 then 2 + l / 2 else 2 * r + l - 1
noncomputable def leastF (o t g : Int) : Int := if needF o g < needF t g then needF t g else needF o g
noncomputable def good (r o t g f l : Int) : Prop := (2 ≤ r ∧ r ≤ 64) ∧ ((1 ≤ o ∧ o ≤ 16) ∧ (1 ≤ t ∧ t ≤ 16)) ∧ (1 ≤ g ∧ g ≤ 32) ∧ (2 ≤ l ∧ l ≤ 64) ∧ (2 ≤ f ∧ f ≤ l)
noncomputable def sp_need  : Sp := fun vs H Q E => match vs with
 | [.int r, .int l] => Q (.int (needF r l)) H
 | _ => False
noncomputable def sp_are_rooms  : Sp := fun vs H Q E => match vs with
 | [.ref p] => ∃ o t, H p = some (.tup [.int o, .int t]) ∧ ∀ H', Same H H' → Q (.bl (decide ((1 ≤ o ∧ o ≤ 16) ∧ (1 ≤ t ∧ t ≤ 16)))) H'
 | _ => False
noncomputable def sp_are_waits  : Sp := fun vs H Q E => match vs with
 | [.int f, .int l] => Q (.bl (decide ((2 ≤ l ∧ l ≤ 64) ∧ 2 ≤ f ∧ f ≤ l))) H
 | _ => False
noncomputable def sp_NotWide___init__  (C_NotWide : Addr) : Sp := fun vs H Q E => match vs with
 | [.ref e, .int l] => H e = some (.ext (exN e C_NotWide none)) ∧ ∀ d, H d = none → Q .non (upd (upd H d (.xd [("least", .int l)])) e (.ext (exN e C_NotWide (some d))))
 | _ => False
noncomputable def sp_Terms___init__  (C_Terms : Addr) (C_BadTerms : Addr) (C_NotWide : Addr) : Sp := fun vs H Q E => match vs with
 | [.ref x, .int r, .ref p, .int g, .int f, .int l] => ∃ o t dx, H p = some (.tup [.int o, .int t]) ∧ H x = some (.ins C_Terms dx []) ∧ (¬ good r o t g f l → ∀ H', Same H H' → E (.ref C_BadTerms) none H') ∧ (good r o t g f l → r < leastF o t g → ∀ H' d, Same H H' → H' d = some (.xd [("least", .int (leastF o t g))]) → E (.ref C_NotWide) (some d) H') ∧ (good r o t g f l → ¬ r < leastF o t g → ∀ H', But x H H' → H' x = some (.ins C_Terms dx (fl_Terms (.int r) (.ref p) (.int g) (.int f) (.int l))) → Q .non H')
 | _ => False
theorem atI_ex {α : Type} {xs : List α} {i : Int} (h0 : 0 ≤ i) (h1 : i < xs.length) : ∃ v, atI xs i = some v := by
 obtain ⟨j, rfl⟩ : ∃ j : Nat, i = (j : Int) := ⟨i.toNat, by omega⟩
 exact ⟨xs[j]'(by omega), atI_n (List.getElem?_eq_getElem (by omega))⟩
theorem dropxl {H H1 : Hp} {e d C : Addr} {o : HO} {l : List (Str × V)} (S : Same H H1) (he : H1 e = none) (hd : upd H1 e o d = none) : Same H (dropH (upd (upd (upd H1 e o) d (.xd l)) e (.ext (exN e C (some d)))) e) ∧ dropH (upd (upd (upd H1 e o) d (.xd l)) e (.ext (exN e C (some d)))) e d = some (.xd l) := by
 have nd : d ≠ e := fun z => by rw [z, upd_same] at hd; cases hd
 refine ⟨fun b u hb => ?_, ?_⟩
 ·have h1 := S b u hb
  have nb : b ≠ e := ne_of_none h1 he
  rw [dropH_ne nb, upd_ne nb, upd_ne (fun z => ?_), upd_ne nb]; exact h1
  rw [z] at h1
  rw [upd_ne nd] at hd
  rw [h1] at hd; cases hd
 ·rw [dropH_ne nd, upd_ne nd, upd_same]
noncomputable def CopyT (H : Hp) (c : Addr) (d p r : Int) : Prop := H c = some (.tup [.int d, .int p, .int r])
noncomputable abbrev Cp := Int × Int × Int
noncomputable def DeedT (H : Hp) (x : Addr) (ds : List Cp) : Prop := ∃ cs : List Addr, H x = some (.lst (cs.map V.ref)) ∧ Paired (fun c (d : Cp) => CopyT H c d.1 d.2.1 d.2.2) cs ds ∧ ds.length ≤ 1000
noncomputable def RowT (H : Hp) (x : Addr) (dss : List (List Cp)) : Prop := ∃ xs : List Addr, H x = some (.lst (xs.map V.ref)) ∧ Paired (DeedT H) xs dss ∧ dss.length ≤ 1000
theorem paired_len {α β : Type} {R : α → β → Prop} {xs : List α} {ys : List β} (p : Paired R xs ys) : xs.length = ys.length := by
 induction p with
 | nil => rfl
 | cons _ _ ih => simp [ih]
theorem paired_get {α β : Type} {R : α → β → Prop} {xs : List α} {ys : List β} (p : Paired R xs ys) {i : Nat} {x : α} (h : xs[i]? = some x) : ∃ y, ys[i]? = some y ∧ R x y := by
 induction p generalizing i with
 | nil => simp at h
 | cons r _ ih =>
  cases i with
  | zero => simp at h; subst h; exact ⟨_, rfl, r⟩
  | succ i => simpa using ih (by simpa using h)
theorem paired_imp {α β : Type} {R R' : α → β → Prop} {xs : List α} {ys : List β} (p : Paired R xs ys) (h : ∀ x y, R x y → R' x y) : Paired R' xs ys := by
 induction p with
 | nil => exact .nil
 | cons r _ ih => exact .cons (h _ _ r) ih
theorem DeedT.same {H H' : Hp} {x : Addr} {ds : List Cp} (h : DeedT H x ds) (s : Same H H') : DeedT H' x ds := by
 obtain ⟨cs, h1, h2, h3⟩ := h
 exact ⟨cs, s _ _ h1, paired_imp h2 fun c d q => s _ _ q, h3⟩
theorem RowT.same {H H' : Hp} {x : Addr} {dss : List (List Cp)} (h : RowT H x dss) (s : Same H H') : RowT H' x dss := by
 obtain ⟨xs, h1, h2, h3⟩ := h
 exact ⟨xs, s _ _ h1, paired_imp h2 fun c d q => q.same s, h3⟩
theorem paired_snoc {α β : Type} {R : α → β → Prop} {xs : List α} {ys : List β} {x : α} {y : β} (p : Paired R xs ys) (r : R x y) : Paired R (xs ++ [x]) (ys ++ [y]) := by
 induction p with
 | nil => exact .cons r .nil
 | cons q _ ih => exact .cons q ih
noncomputable def RowN (H0 H : Hp) (p : Addr) (dss : List (List Cp)) : Prop := H0 p = none ∧ ∃ xs : List Addr, H p = some (.lst (xs.map V.ref)) ∧ Paired (fun x ds => H0 x = none ∧ DeedT H x ds) xs dss ∧ dss.length ≤ 1000
theorem RowN.row {H0 H : Hp} {p : Addr} {dss : List (List Cp)} (h : RowN H0 H p dss) : RowT H p dss := by
 obtain ⟨_, xs, h1, h2, h3⟩ := h
 exact ⟨xs, h1, paired_imp h2 fun x ds q => q.2, h3⟩
theorem DeedT.put {H : Hp} {x p : Addr} {ds : List Cp} {l : List V} {o : HO} (h : DeedT H x ds) (hx : x ≠ p) (hp : H p = some (.lst l)) : DeedT (upd H p o) x ds := by
 obtain ⟨cs, h1, h2, h3⟩ := h
 exact ⟨cs, by rw [upd_ne hx]; exact h1, paired_imp h2 fun c d q => by show upd H p o c = _; rw [upd_ne (ne_of q hp (by simp))]; exact q, h3⟩
noncomputable def RowP (p : Addr) (H : Hp) (x : Addr) (dss : List (List Cp)) : Prop := x ≠ p ∧ ∃ xs : List Addr, H x = some (.lst (xs.map V.ref)) ∧ Paired (fun y ds => y ≠ p ∧ DeedT H y ds) xs dss ∧ dss.length ≤ 1000
theorem RowP.put {p x : Addr} {H : Hp} {dss : List (List Cp)} {l : List V} {o : HO} (h : RowP p H x dss) (hp : H p = some (.lst l)) : RowP p (upd H p o) x dss := by
 obtain ⟨n, xs, h1, h2, h3⟩ := h
 exact ⟨n, xs, by rw [upd_ne n]; exact h1, paired_imp h2 fun y ds q => ⟨q.1, q.2.put q.1 hp⟩, h3⟩
theorem RowP.same {p x : Addr} {H H' : Hp} {dss : List (List Cp)} (h : RowP p H x dss) (s : Same H H') : RowP p H' x dss := by
 obtain ⟨n, xs, h1, h2, h3⟩ := h
 exact ⟨n, xs, s _ _ h1, paired_imp h2 fun y ds q => ⟨q.1, q.2.same s⟩, h3⟩
theorem RowP.row {p x : Addr} {H : Hp} {dss : List (List Cp)} (h : RowP p H x dss) : RowT H x dss := by
 obtain ⟨_, xs, h1, h2, h3⟩ := h
 exact ⟨xs, h1, paired_imp h2 fun x ds q => q.2, h3⟩
theorem RowN.apart {H0 H : Hp} {p x : Addr} {o : HO} {dss : List (List Cp)} (h : RowN H0 H x dss) (hp : H0 p = some o) : RowP p H x dss := by
 obtain ⟨n, xs, h1, h2, h3⟩ := h
 exact ⟨(ne_of_none hp n).symm, xs, h1, paired_imp h2 fun x ds q => ⟨(ne_of_none hp q.1).symm, q.2⟩, h3⟩
theorem copies_dn {K : PySem.W.Frag} {H : Hp} : ∀ {cs : List Addr} {ds : List Cp}, Paired (fun c (d : Cp) => CopyT H c d.1 d.2.1 d.2.2) cs ds → Paired (Dn K H 1) (cs.map V.ref) (ds.map fun d => Dt.t [.int d.1, .int d.2.1, .int d.2.2])
 | _, _, .nil => .nil
 | _, _, .cons r rr => .cons (dn_tup r (.cons dn_int (.cons dn_int (.cons dn_int .nil)))) (copies_dn rr)
noncomputable def dtD (ds : List Cp) : Dt := .l (ds.map fun d => Dt.t [.int d.1, .int d.2.1, .int d.2.2])
theorem DeedT.dn {K : PySem.W.Frag} {H : Hp} {x : Addr} {ds : List Cp} (h : DeedT H x ds) : Dn K H 2 (.ref x) (dtD ds) := by
 obtain ⟨cs, h1, h2, _⟩ := h
 exact dn_lst h1 (copies_dn h2)
theorem deeds_dn {K : PySem.W.Frag} {H : Hp} : ∀ {xs : List Addr} {dss : List (List Cp)}, Paired (DeedT H) xs dss → Paired (Dn K H 2) (xs.map V.ref) (dss.map dtD)
 | _, _, .nil => .nil
 | _, _, .cons r rr => .cons r.dn (deeds_dn rr)
theorem RowT.dn {K : PySem.W.Frag} {H : Hp} {x : Addr} {dss : List (List Cp)} (h : RowT H x dss) : Dn K H 3 (.ref x) (.l (dss.map dtD)) := by
 obtain ⟨xs, h1, h2, _⟩ := h
 exact dn_lst h1 (deeds_dn h2)
noncomputable def rwF (ws : List Bool) : Nat → Nat
 | 0 => 0
 | k + 1 => if W ws k then 0 else rwF ws k + 1
noncomputable def lgF (ws : List Bool) : Nat → Nat
 | 0 => 0
 | k + 1 => if lgF ws k < rwF ws (k + 1) then rwF ws (k + 1) else lgF ws k
theorem rwF_none {ws : List Bool} : ∀ {k j : Nat}, k - rwF ws k ≤ j → j < k → W ws j = false
 | 0, _, _, h => absurd h (Nat.not_lt_zero _)
 | k + 1, j, h1, h2 => by
  unfold rwF at h1
  cases e : W ws k with
  | true => rw [e, if_pos rfl] at h1; omega
  | false =>
   rw [e, if_neg (by decide)] at h1
   by_cases c : j = k
   ·rw [c]; exact e
   ·exact rwF_none (k := k) (by omega) (by omega)
theorem rwF_le {ws : List Bool} : ∀ {k : Nat}, rwF ws k ≤ k
 | 0 => Nat.le_refl _
 | k + 1 => by
  unfold rwF
  split
  ·omega
  ·have := rwF_le (ws := ws) (k := k); omega
theorem rwF_ge {ws : List Bool} {s : Nat} : ∀ {n : Nat}, (∀ j, s ≤ j → j < s + n → W ws j = false) → n ≤ rwF ws (s + n)
 | 0, _ => Nat.zero_le _
 | n + 1, h => by
  show n + 1 ≤ rwF ws (s + n + 1)
  unfold rwF
  rw [h (s + n) (by omega) (by omega), if_neg (by decide)]
  have := rwF_ge (ws := ws) (s := s) (n := n) (fun j a b => h j a (by omega))
  omega
theorem lgF_ge {ws : List Bool} : ∀ {k j : Nat}, j ≤ k → rwF ws j ≤ lgF ws k
  | 0, j, h => by have : j = 0 := by omega
                  subst this; exact Nat.le_refl _
  | k + 1, j, h => by
    unfold lgF
    by_cases c : j = k + 1
    · subst c
      split
      · exact Nat.le_refl _
      · omega
    · have := lgF_ge (ws := ws) (k := k) (j := j) (by omega)
      split <;> omega
theorem lgF_at {ws : List Bool} : ∀ {k : Nat}, ∃ j, j ≤ k ∧ lgF ws k = rwF ws j
 | 0 => ⟨0, Nat.le_refl _, rfl⟩
 | k + 1 => by
  unfold lgF
  split
  ·exact ⟨k + 1, Nat.le_refl _, rfl⟩
  ·obtain ⟨j, h1, h2⟩ := lgF_at (ws := ws) (k := k)
   exact ⟨j, by omega, h2⟩
theorem W_per {ws : List Bool} {s i : Nat} : W ws (s % ws.length + i) = W ws (s + i) := by
 unfold W
 rw [Nat.mod_add_mod]
theorem none_iff {ws : List Bool} {s n : Nat} (h : noneW ws s n = true) : ∀ j, s ≤ j → j < s + n → W ws j = false := fun j h1 h2 => by
 unfold noneW at h
 have := List.all_eq_true.mp h (j - s) (List.mem_range.mpr (by omega))
 rw [show s + (j - s) = j by omega] at this
 simpa using this
theorem lg_fair {ws : List Bool} {M : Int} (hm : M ∈ gaps ws) (hle : ∀ a ∈ gaps ws, a ≤ M) : ((lgF ws (2 * ws.length) : Nat) : Int) + 1 = M := by
 obtain ⟨h1, h2, h3, s, hs, h4⟩ := fair_ok hm hle
 have a1 := rwF_ge (none_iff h4)
 have a2 := lgF_ge (ws := ws) (k := 2 * ws.length) (j := s + (M - 1).toNat) (by omega)
 obtain ⟨j, j1, j2⟩ := lgF_at (ws := ws) (k := 2 * ws.length)
 by_cases c : M.toNat ≤ rwF ws j
 ·exfalso
  have hL : 0 < ws.length := by omega
  have jl := rwF_le (ws := ws) (k := j)
  have h5 := h3 ((j - rwF ws j) % ws.length) (Nat.mod_lt _ hL)
  have h6 : noneW ws ((j - rwF ws j) % ws.length) M.toNat = true := none_t fun k k1 k2 => by
   have e : k = (j - rwF ws j) % ws.length + (k - (j - rwF ws j) % ws.length) := by omega
   rw [e, W_per]
   exact rwF_none (k := j) (by omega) (by omega)
  rw [h6] at h5
  cases h5
 ·omega
theorem ex_max : ∀ {l : List Int}, l ≠ [] → ∃ M, M ∈ l ∧ ∀ a ∈ l, a ≤ M
 | [], h => absurd rfl h
 | [x], _ => ⟨x, by simp, fun a ha => by simp at ha; omega⟩
 | x :: y :: l, _ => by
  obtain ⟨M, h1, h2⟩ := ex_max (l := y :: l) (by simp)
  by_cases c : M < x
  ·exact ⟨x, by simp, fun a ha => by
    rcases List.mem_cons.mp ha with rfl | ha
    ·exact Int.le_refl _
    ·have := h2 a ha; omega⟩
  ·exact ⟨M, List.mem_cons_of_mem _ h1, fun a ha => by
    rcases List.mem_cons.mp ha with rfl | ha
    ·omega
    ·exact h2 a ha⟩
noncomputable def wh (d : List Cp) : Bool := d.any fun c => decide (c.2.2 = 0)
noncomputable def FairR (ws : List Bool) (v : V) : Prop := (ws = [] ∧ v = .int 1) ∨ (ws ≠ [] ∧ idx ws = [] ∧ v = .non) ∨ (idx ws ≠ [] ∧ ∃ M, v = .int M ∧ M ∈ gaps ws ∧ ∀ a ∈ gaps ws, a ≤ M)
theorem cut1 {x : V} {l : List V} : cutV (x :: l) (some 1) none = l := by
 unfold cutV
 simp [HT.sIx]
noncomputable def zeV (H : Hp) (v : V) : V := match v with
 | .ref c => match H c with
  | some (.tup [.int _, .int _, .int r]) => .bl (decide (r = 0))
  | _ => .non
 | _ => .non
theorem zeV_at {H : Hp} {c : Addr} {d p r : Int} (h : CopyT H c d p r) : zeV H (.ref c) = .bl (decide (r = 0)) := by
 have h' : H c = some (.tup [.int d, .int p, .int r]) := h
 simp only [zeV, h']
theorem zeV_all {H : Hp} {cs : List Addr} {ds : List Cp} (h : Paired (fun c (d : Cp) => CopyT H c d.1 d.2.1 d.2.2) cs ds) : (cs.map V.ref).map (zeV H) = (ds.map fun d => decide (d.2.2 = 0)).map V.bl := by
 induction h with
 | nil => rfl
 | cons r _ ih =>
  rw [List.map_cons, List.map_cons, List.map_cons, List.map_cons, ih]
  have e := zeV_at r
  rw [e]
noncomputable def sp_has_whole_copy  : Sp := fun vs H Q E => match vs with
 | [.ref x] => ∃ ds, DeedT H x ds ∧ ∀ H', Same H H' → Q (.bl (wh ds)) H'
 | _ => False
noncomputable def sp_fairness  : Sp := fun vs H Q E => match vs with
 | [.ref x] => ∃ dss, RowT H x dss ∧ dss.length ≤ 60 ∧ ∀ v H', Same H H' → FairR (dss.map wh) v → Q v H'
 | _ => False
noncomputable abbrev Wi := Int × Str × V
noncomputable def wok (w : Wi) : Prop := (w.2.1 = "put" → ∃ z, w.2.2 = .str z ∧ z.length ≤ 60) ∧ (w.2.2 = .non ∨ (∃ i, w.2.2 = .int i) ∨ ∃ z, w.2.2 = .str z) ∧ 0 ≤ w.1
noncomputable def WishT (H : Hp) (x : Addr) (w : Wi) : Prop := ∃ sd, H x = some (.tup [.int w.1, .int sd, .str w.2.1, w.2.2]) ∧ wok w
noncomputable def thF (w : Wi) : Int := if w.2.1 = "begin" then 4 else if w.2.1 = "put" then (match w.2.2 with | .str z => ((z.length : Int) + 3) / 4 | _ => 0) else 0
noncomputable def WishesT (H : Hp) (p : Addr) (ws : List Wi) : Prop := ∃ xs : List Addr, H p = some (.lst (xs.map V.ref)) ∧ Paired (WishT H) xs ws ∧ ws.length ≤ 100
theorem WishT.same {H H' : Hp} {x : Addr} {w : Wi} (h : WishT H x w) (s : Same H H') : WishT H' x w := by
 obtain ⟨sd, h1, h2⟩ := h
 exact ⟨sd, s _ _ h1, h2⟩
theorem WishesT.same {H H' : Hp} {p : Addr} {ws : List Wi} (h : WishesT H p ws) (s : Same H H') : WishesT H' p ws := by
 obtain ⟨xs, h1, h2, h3⟩ := h
 exact ⟨xs, s _ _ h1, paired_imp h2 fun c d q => q.same s, h3⟩
noncomputable def LastR (ws : List Wi) (M : Int) : Prop := (ws = [] ∧ M = -1) ∨ ((∃ w ∈ ws, w.1 = M) ∧ ∀ w ∈ ws, w.1 ≤ M)
noncomputable def sp_last_turn_of  : Sp := fun vs H Q E => match vs with
 | [.ref p] => ∃ ws, WishesT H p ws ∧ ∀ M H', Same H H' → LastR ws M → Q (.int M) H'
 | _ => False
noncomputable def sp_things_of  : Sp := fun vs H Q E => match vs with
 | [.ref x] => ∃ w, WishT H x w ∧ Q (.int (thF w)) H
 | _ => False
noncomputable def sp_things_at_most  : Sp := fun vs H Q E => match vs with
 | [.ref p] => ∃ ws, WishesT H p ws ∧ ∀ H', Same H H' → Q (.int ((ws.map thF).sum)) H'
 | _ => False
noncomputable def TmAt (CT : Addr) (H : Hp) (x : Addr) (r o t g f l : Int) : Prop := ∃ dx p, H x = some (.ins CT dx (fl_Terms (.int r) (.ref p) (.int g) (.int f) (.int l))) ∧ H p = some (.tup [.int o, .int t])
theorem TmAt.same {CT x : Addr} {H H' : Hp} {r o t g f l : Int} (h : TmAt CT H x r o t g f l) (s : Same H H') : TmAt CT H' x r o t g f l := by
 obtain ⟨dx, p, h1, h2⟩ := h
 exact ⟨dx, p, s _ _ h1, s _ _ h2⟩
noncomputable def recF (M n o t g l G : Int) : Int := M + 1 + (4 * n + (o + t) + 1) * (G * (G * l + g) + 2 * g + 4) + 2 * g + 4
noncomputable def sp_reckoned  (C_Terms : Addr) : Sp := fun vs H Q E => match vs with
 | [.ref tm, .ref rd, .ref wi] => ∃ r o t g f l pa pb da db ws, TmAt C_Terms H tm r o t g f l ∧ good r o t g f l ∧ H rd = some (.tup [.ref pa, .ref pb]) ∧ RowT H pa da ∧ RowT H pb db ∧ (da.length ≤ 60 ∧ db.length ≤ 60) ∧ WishesT H wi ws ∧ ∀ va vb H', Same H H' → FairR (da.map wh) va → FairR (db.map wh) vb → ((va = .non ∨ vb = .non) → Q .non H') ∧ (∀ x y M, va = .int x → vb = .int y → LastR ws M → Q (.int (recF M ((ws.map thF).sum) o t g l (if x < y then y else x))) H')
 | _ => False
noncomputable def sp__law_cell_at  (K : PySem.W.Frag) : Sp := fun vs H Q E => match vs with
 | [.ref a, .int k] => ∃ ns : List Int, SqL K H a (ns.map V.int) ∧ 0 ≤ k ∧ ∀ n, Q (.int n) H
 | _ => False
noncomputable def sp__law_whole  : Sp := fun vs H Q E => match vs with
 | [.int i] => Q (.bl true) H
 | _ => False
noncomputable def sp__law_is_row  : Sp := fun vs H Q E => match vs with
 | [.int c] => ∀ b, Q (.bl b) H
 | _ => False
noncomputable def sp__law_digit  : Sp := fun vs H Q E => match vs with
 | [.int c, .int k] => (0 ≤ k ∧ k ≤ 100000) ∧ ∀ v, 0 ≤ v → v < 2147483648 → Q (.int v) H
 | _ => False
noncomputable def sp__law_mixed  : Sp := fun vs H Q E => match vs with
 | [.int c, .int k] => (0 ≤ k ∧ k ≤ 100000) ∧ ∀ v, 0 ≤ v → v < 2147483648 → Q (.int v) H
 | _ => False
noncomputable def sp__law_any_text  : Sp := fun vs H Q E => match vs with
 | [.int c, .int k, .int n] => (0 ≤ k ∧ k ≤ 10000 ∧ 0 ≤ n ∧ n ≤ 60) ∧ ∀ (z : Str) H', Same H H' → (z.length : Int) = n → Q (.str z) H'
 | _ => False
noncomputable def sp__law_any_deeds  : Sp := fun vs H Q E => match vs with
 | [.int c, .int lag, .int n] => (1 ≤ lag ∧ lag ≤ 100 ∧ 0 ≤ n ∧ n ≤ 60) ∧ ∀ p dss H', Same H H' → RowN H H' p dss → dss.length ≤ 60 → Q (.ref p) H'
 | _ => False
noncomputable def sp__law_any_wishes  : Sp := fun vs H Q E => match vs with
 | [.int c, .int m, .int fa, .int lt] => (1 ≤ m ∧ m ≤ 60 ∧ 1 ≤ fa ∧ fa ≤ 1000 ∧ 1 ≤ lt ∧ lt ≤ 60) ∧ ∀ p ws H', Same H H' → H p = none → WishesT H' p ws → Q (.ref p) H'
 | _ => False
noncomputable def sp__law_any_measures  : Sp := fun vs H Q E => match vs with
 | [.int c] => ∀ p pr r o t g f l H', Same H H' → H' p = some (.tup [.int r, .ref pr, .int g, .int f, .int l]) → H' pr = some (.tup [.int o, .int t]) → good r o t g f l → ¬ r < leastF o t g → Q (.ref p) H'
 | _ => False
noncomputable def sp__law_any_roads  (K : PySem.W.Frag) : Sp := fun vs H Q E => match vs with
 | [.ref a, .int lag] => (1 ≤ lag ∧ lag ≤ 100) ∧ ∃ ns : List Int, SqL K H a (ns.map V.int) ∧ ∀ p pa pb da db H', Same H H' → H' p = some (.tup [.ref pa, .ref pb]) → RowT H' pa da → RowT H' pb db → da.length ≤ 60 → db.length ≤ 60 → Q (.ref p) H'
 | _ => False
noncomputable def sp__law_deeds  : Sp := fun vs H Q E => match vs with
 | [.int c, .int lag] => (1 ≤ lag ∧ lag ≤ 100) ∧ ∀ p dss H', Same H H' → RowN H H' p dss → dss.length ≤ 60 → Q (.ref p) H'
 | _ => False
noncomputable def sp__law_fair  : Sp := fun vs H Q E => match vs with
 | [.ref x] => ∃ dss, RowT H x dss ∧ dss.length ≤ 60 ∧ ∀ v H', Same H H' → FairR (dss.map wh) v → Q v H'
 | _ => False
noncomputable def sp__law_wish  : Sp := fun vs H Q E => match vs with
 | [.int c] => ∀ x w H', Same H H' → H x = none → WishT H' x w → Q (.ref x) H'
 | _ => False
set_option compiler.extract_closed false in
local macro_rules | `(tactic| exists $es,*) => `(tactic| simp only [tRet, tRetN, tOp, tUn, tVar, tC, tAsg, gName, tSeq, tNext, tBreak, tCont, tIfS, tTest, tB, tNot, tAnd, tOr, tCall, tCons, tNil, tCB, tChain, tAndV, tOrV, tNotV, tIf, tDrop, tSl, tNoPart, tPart, rI0_int, rI_int, rU_int, ex_bl, ex_sv, rEq_int, rNe_int, rEq_str, rNe_str, rEq_bl, rNe_bl, rAddA_int, rAddA_str, rLenA_ref, rLenA_str, rIsi_ii, rIsi_ib, rIsi_is, rIsi_bi, rIsi_bb, rIsi_ss, rIsi_si, rMinA_int, rMaxA_int, rEqA_int, rNeA_int, rEqA_str, rNeA_str, rEqA_bl, rNeA_bl, rIsB_bl, rIsnotB_bl, rIsN_f, rIsN_t, tBM0, tBM, tyV_int, tyV_str, rBitlen_int, rSlA_str, rInA_str, rInA_ref, tFor_seq, tFor_rng1, tFor_rng2, tFor_rng3, tComp_seq, tComp_rng1, tComp_rng2, tComp_rng3, rngR1_int, rngR2_int, rngR3_int, compSt_one, rAll_ref, rAny_ref, rSum_ref, rListA_ref, rTupleA_ref, rDivmodA_int, rAppendA_ref, rSetA_ref, tTup, tLst, tCs, tTC, gTup_ref, gCons_cons, gNil_nil, gSub, tYes, tDrop, small_line, small_lt, Option.join_some, CDiv, CPowA, CMul, cxOf_K, ex_int,
 L2.start, List.map_cons, List.map_nil, List.length_cons, List.length_nil, List.replicate_zero, List.replicate_succ, List.append_nil, List.nil_append, List.cons_append, List.getElem?_cons_zero, List.getElem?_cons_succ, List.set_cons_zero, List.set_cons_succ, decide_eq_true_eq, Bool.not_eq_true', decide_eq_false_iff_not, if_true, if_false, ite_true, ite_false, Bool.false_eq_true, true_and, and_true, Bool.not_true, Bool.not_false, Int.reduceLT, Int.reduceLE, Int.reducePow, Int.reduceToNat, Int.reduceAdd, Int.reduceSub, Int.reduceMul, Int.reduceNeg, Nat.reducePow, Nat.reduceLT, Nat.reduceLeDiff, true_or, or_true, Int.reduceEq, and_self, Nat.reduceAdd, Nat.reduceSub, Int.neg_neg, reduceCtorEq, not_true_eq_false, not_false_eq_true,
 sp_is_from, sp_need, sp_are_rooms, sp_are_waits, sp_NotWide___init__, sp_Terms___init__, sp_has_whole_copy, sp_fairness, sp_last_turn_of, sp_things_of, sp_things_at_most, sp_reckoned, sp__law_cell_at, sp__law_whole, sp__law_is_row, sp__law_digit, sp__law_mixed, sp__law_any_text, sp__law_any_deeds, sp__law_any_wishes, sp__law_any_measures, sp__law_any_roads, sp__law_deeds, sp__law_fair, sp__law_wish, tFldC, sFldC, sAugC, tMtC, tMake, rFld_ref, rSetF_ref, rAugF_ref, rMt_ref, ex_ins, upd_same, upd_upd, L2.ex_som, fl_Terms_1_len, fl_Terms_1_new, fl_Terms_2_len, fl_Terms_2_new, fl_Terms_3_len, fl_Terms_3_new, fl_Terms_4_len, fl_Terms_4_new, fl_Terms_new, fl_Terms_get_rooms, fl_Terms_get_lag, fl_Terms_get_longest, tFor_enum, tFor_zip, tComp_enum, tComp_zip, compSt_two, compSt_three, rSumT_ref, rMaxT_ref, rMulS_str, tMaxD, rMaxD_ref, tTry, tHc, tH0, hx2_t, hx2_f, tCallS, tMakeS, tMtS, Ends.un, tRaise0, tRaiseI, sFldX, tFldX, rFldX_ref, ex_exf, ex_exc, ex_xd, ex_xd1, rEqX_int, rNeX_int, rEqX_str, rNeX_str, rEqX_bl, rNeX_bl, isbO_some, xdOk_n, xdOk_s, rIsiX_ref, rIsiX_ty, gTupX_ref, gOx_tup, gOx_lst, kitAny_2, kit2_t, kit2_f, isiTO_2, rIsiX2_ref, tFldXA, rFldXA_ref, ex_sd, rFindS_str, rIndexS_str, rLjust_str, rIndexT_ref, rIndexL_ref, rJoin_ref, rIxB_ref, rIxB_str, ixO_lst, ixO_tup, atI_0, atI_1, atI_2, atI_3, atI_4, atI_5, L2.atI_last, gTupB_ref, gO_tup, rLenB_ref, rLenB_str, lenO_lst, lenO_tup, rIsiB_ref, rIsiB_i, rIsiB_b, rIsiB_s, isiO_tup, isiO_lst, ex_lst, ex_lst2, tSw, swV_ref, swO_tup, rMinB_ref, rMaxB_ref, $[$es:term],*])
local macro_rules | `(tactic| walk_at "wps") => `(tactic| exists true_and)
section
variable {C_Terms C_RoadError C_BadTerms C_NotWide : Addr} {P : Program} {w : World} {K : PySem.W.Frag} {mg : Str → Option Value} {base : Heap}
--SPLIT
theorem ok_is_from (T : Txt K mg C_Terms C_RoadError C_BadTerms C_NotWide)  : FnAt P w K mg base (CX1 P w) "is_from" 1 ["value", "low", "high"] sp_is_from := by
 refine T.d_is_from.fn sc_is_from bd_is_from (fun vs H Q E h => ?_) fun f cdv A outer s H vs Q E HR h => ?_
 ·unfold sp_is_from at h; split at h <;> first | rfl | exact h.elim
 ·unfold sp_is_from at h
  split at h
  ·rename_i v l h'
   refine ⟨_, (pss_one (ps_ret (pe_and (pe_callBQ (call_isiB K rfl) (by rfl) T.b_isinstance bt_isinstance (pa_q (pv 0) (pa_q (pe_ty rfl T.b_int bt_int) pa_nil))) (pe_and (pe_not (pe_callBQ (call_isiB K rfl) (by rfl) T.b_isinstance bt_isinstance (pa_q (pv 0) (pa_q (pe_ty rfl T.b_bool bt_bool) pa_nil)))) (pe_one (pe_chain op_le op_le (pv 1) (pv 0) (pv 2))))))), ?_⟩
   walk_at "wps"
   unfold fromB at h
   by_cases c : l ≤ v
   ·rw [if_pos c]
    simpa only [c, decide_true, Bool.true_and] using h
   ·rw [if_neg c]
    simpa only [c, decide_false, Bool.false_and] using h
  ·exact h.elim
theorem ok_need (T : Txt K mg C_Terms C_RoadError C_BadTerms C_NotWide)  : FnAt P w K mg base (CX1 P w) "need" 1 ["room", "lag"] sp_need := by
 refine T.d_need.fn sc_need bd_need (fun vs H Q E h => ?_) fun f cdv A outer s H vs Q E HR h => ?_
 ·unfold sp_need at h; split at h <;> first | rfl | exact h.elim
 ·unfold sp_need at h
  split at h
  ·rename_i r l
   refine ⟨_, (pss_one (ps_ret (pe_ifExp (pt_cmpR (op_eqXK K rfl HR.units) (pv 0) pe_int (nomark _)) (pe_op (op_addK K rfl) pe_int (pe_op op_fdiv (pv 1) pe_int)) (pe_op op_sub (pe_op (op_addK K rfl) (pe_op op_mul pe_int (pv 0)) (pv 1)) pe_int)))), ?_⟩
   walk_at "wps"
   unfold needF at h
   split
   ·rename_i c; rw [if_pos c] at h; exact h
   ·rename_i c; rw [if_neg c] at h; exact h
  ·exact h.elim
theorem ok_are_waits (T : Txt K mg C_Terms C_RoadError C_BadTerms C_NotWide)  : FnAt P w K mg base (CX1 P w) "are_waits" 2 ["first", "longest"] sp_are_waits := by
 refine T.d_are_waits.fn sc_are_waits bd_are_waits (fun vs H Q E h => ?_) fun f cdv A outer s H vs Q E HR h => ?_
 ·unfold sp_are_waits at h; split at h <;> first | rfl | exact h.elim
 ·unfold sp_are_waits at h
  split at h
  ·rename_i f l
   refine ⟨_, (pss_one (ps_ret (pe_and (pe_fnQ (ok_is_from T) HR (by decide) rfl (pa_q (pv 1) (pa_q (pe_cst rfl T.c_WAIT_LEAST) (pa_q (pe_cst rfl T.c_WAIT_MOST) pa_nil)))) (pe_one (pe_fnQ (ok_is_from T) HR (by decide) rfl (pa_q (pv 0) (pa_q (pe_cst rfl T.c_WAIT_LEAST) (pa_q (pv 1) pa_nil)))))))), ?_⟩
   walk_at "wps"
   by_cases c : 2 ≤ l ∧ l ≤ 64
   ·rw [if_pos (fromB_t c)]
    have e : fromB f 2 l = decide ((2 ≤ l ∧ l ≤ 64) ∧ 2 ≤ f ∧ f ≤ l) := by rw [Bool.eq_iff_iff, fromB_iff, decide_eq_true_eq]; exact ⟨fun k => ⟨c, k⟩, fun k => k.2⟩
    rw [e]; exact h
   ·rw [if_neg (by rw [fromB_f c]; decide)]
    rw [decide_eq_false (fun k => c k.1)] at h
    exact h
  ·exact h.elim
theorem ok_NotWide___init__ (T : Txt K mg C_Terms C_RoadError C_BadTerms C_NotWide)  : MtAt P w K mg base (CX1 P w) C_NotWide "__init__" 1 ["self", "least"] (sp_NotWide___init__ C_NotWide) := by
 refine T.d_NotWide___init__.fn sc_NotWide___init__ bd_NotWide___init__ (fun vs H Q E h => ?_) fun f cdv A outer s H vs Q E HR h => ?_
 ·unfold sp_NotWide___init__ at h; split at h <;> first | rfl | exact h.elim
 ·unfold sp_NotWide___init__ at h
  split at h
  ·rename_i e l
   refine ⟨_, (pss_one (ps_fldXQ T.x_NotWide T.xf_NotWide_least (pv 0) (pv 1))), ?_⟩
   obtain ⟨he, q⟩ := h
   exists he
   exact ⟨e, rfl, he, q⟩
  ·exact h.elim
theorem ok_are_rooms (T : Txt K mg C_Terms C_RoadError C_BadTerms C_NotWide)  : FnAt P w K mg base (CX1 P w) "are_rooms" 2 ["rooms"] sp_are_rooms := by
 refine T.d_are_rooms.fn sc_are_rooms bd_are_rooms (fun vs H Q E h => ?_) fun f cdv A outer s H vs Q E HR h => ?_
 ·unfold sp_are_rooms at h; split at h <;> first | rfl | exact h.elim
 ·unfold sp_are_rooms at h
  split at h
  ·rename_i p
   refine ⟨_, (pss_one (ps_ret (pe_and (pe_callBQ (call_isiB K rfl) (by rfl) T.b_isinstance bt_isinstance (pa_q (pv 0) (pa_q (pe_ty rfl T.b_tuple bt_tuple) pa_nil))) (pe_and (pe_cmpR (op_eqXK K rfl HR.units) (pe_callBQ (call_lenB K rfl) (by rfl) T.b_len bt_len (pa_q (pv 0) pa_nil)) pe_int (nomark _)) (pe_one (pe_callBQ (call_allK K rfl rfl) (by rfl) T.b_all bt_all (pa_q (pe_comp (N := (["room"] : List Str)) (nv := 1) (ix := []) rfl (cs_of (by kernel_rfl)) (pi_seqK K rfl (pv 0)) (fun _ _ _ _ _ => (pg_name (i := 0) (show ((["room"] : List Str)).Nodup by decide) rfl (Or.inl rfl))) (fun _ _ _ _ _ => pts_nil) (fun _ _ _ _ _ => (pe_fnQ (ok_is_from T) HR (by decide) rfl (pa_q (pv 0) (pa_q pe_int (pa_q (pe_cst rfl T.c_ROOM_MOST) pa_nil)))))) pa_nil))))))), ?_⟩
   obtain ⟨o, t, hp, q⟩ := h
   exists hp
   refine co_tup (p := fun _ => true) (f := fun x => match x with | .int i => .bl (fromB i 1 16) | _ => .non) (SqT.of hp) (small_ok (by simp)) (fun x _ Q h => h) (fun x hx _ Q h => ?_) ?_
   ·simp only [List.mem_cons, List.not_mem_nil, or_false] at hx
    rcases hx with rfl | rfl <;> (walk_at "wps"; exact h)
   ·refine ⟨small_ok (by simp), fun l hl => ⟨[fromB o 1 16, fromB t 1 16], SqL.of upd_same, ?_⟩⟩
    have := q _ (same_upd (o := .lst [.bl (fromB o 1 16), .bl (fromB t 1 16)]) hl)
    have e : ([fromB o 1 16, fromB t 1 16].all id) = decide ((1 ≤ o ∧ o ≤ 16) ∧ 1 ≤ t ∧ t ≤ 16) := by
     rw [Bool.eq_iff_iff, decide_eq_true_eq, ← fromB_iff, ← fromB_iff]; simp
    rw [e]
    exact this
  ·exact h.elim
theorem ok_Terms___init__ (T : Txt K mg C_Terms C_RoadError C_BadTerms C_NotWide)    : MtAt P w K mg base (CX1 P w) C_Terms "__init__" 3 ["self", "ring", "rooms", "lag", "first", "longest"] (sp_Terms___init__ C_Terms C_BadTerms C_NotWide) := by
 refine T.d_Terms___init__.fnX sc_Terms___init__ bd_Terms___init__ (fun vs H Q E h => ?_) fun f cdv A outer s H vs Q E HR h => ?_
 ·unfold sp_Terms___init__ at h; split at h <;> first | rfl | exact h.elim
 ·unfold sp_Terms___init__ at h
  split at h
  ·rename_i x r p g f l
   refine ⟨_, (pss_cons (ps_if (PT.nox (pt_not (PW.pt (pw_and (pt_q (pe_fnQ (ok_is_from T) HR (by decide) rfl (pa_q (pv 1) (pa_q pe_int (pa_q (pe_cst rfl T.c_RING_MOST) pa_nil))))) (pw_and (pt_q (pe_fnQ (ok_are_rooms T) HR (by decide) rfl (pa_q (pv 2) pa_nil))) (pw_and1 (pt_q (pe_fnQ (ok_is_from T) HR (by decide) rfl (pa_q (pv 3) (pa_q pe_int (pa_q (pe_cst rfl T.c_LAG_MOST) pa_nil))))))))))) (pss_one (ps_raise0 T.x_BadTerms rz_fn rfl rfl rfl)) pss_nil)
 (pss_hold (pss_cons (ps_if (PT.nox (pt_not (pt_q (pe_fnQ (ok_are_waits T) HR (by decide) rfl (pa_q (pv 4) (pa_q (pv 5) pa_nil)))))) (pss_one (ps_raise0 T.x_BadTerms rz_fn rfl rfl rfl)) pss_nil)
 (pss_hold (pss_cons (PS.nox (ps_setQ (i := 6) sc_Terms___init__.nd rfl (Or.inl rfl) (pe_callBQ (call_maxB K rfl rfl) (by rfl) T.b_max bt_max (pa_q (pe_comp (N := (["room", "lag"] : List Str)) (nv := 1) (ix := [3]) rfl (cs_of (by kernel_rfl)) (pi_seqK K rfl (pv 2)) (fun _ _ _ _ _ => (pg_name (i := 0) (show ((["room", "lag"] : List Str)).Nodup by decide) rfl (Or.inl rfl))) (fun _ _ _ _ _ => pts_nil) (fun _ _ _ _ _ => (pe_fnQ (ok_need T) HR (by decide) rfl (pa_q (pv 0) (pa_q (pv 1) pa_nil))))) pa_nil))))
 (pss_hold (pss_cons (ps_if (PT.nox (pt_cmpR op_lt (pv 1) (pv 6) (nomark _))) (pss_one (ps_raiseIQ T.x_NotWide (ok_NotWide___init__ T) T.kp_NotWide HR (by decide) rz_fn rfl rfl rfl (pa_q (pv 6) pa_nil))) pss_nil)
 (pss_hold (pss_cons (PS.nox (ps_fldC (pv 0) (pv 1) T.k_Terms T.n_Terms_ring))
 (pss_cons (PS.nox (ps_fldC (pv 0) (pv 2) T.k_Terms T.n_Terms_rooms))
 (pss_cons (PS.nox (ps_fldC (pv 0) (pv 3) T.k_Terms T.n_Terms_lag))
 (pss_cons (PS.nox (ps_fldC (pv 0) (pv 4) T.k_Terms T.n_Terms_first))
 (pss_one (PS.nox (ps_fldC (pv 0) (pv 5) T.k_Terms T.n_Terms_longest))))))))))))))), ?_⟩
   obtain ⟨o, t, dx, hp, hx, q1, q2, q3⟩ := h
   generalize h_u1 : tHold _ = u1
   walk_at "wps"
   by_cases c1 : 2 ≤ r ∧ r ≤ 64
   rotate_left
   ·rw [if_neg (by rw [fromB_f c1]; decide)]; exact q1 (fun hg => c1 hg.1) H (Same.refl _)
   rw [if_pos (fromB_t c1)]
   refine ⟨o, t, hp, fun H1 S1 => ?_⟩
   by_cases c2 : (1 ≤ o ∧ o ≤ 16) ∧ 1 ≤ t ∧ t ≤ 16
   rotate_left
   ·rw [if_neg c2]; exact q1 (fun hg => c2 hg.2.1) H1 S1
   rw [if_pos c2]
   by_cases c3 : 1 ≤ g ∧ g ≤ 32
   rotate_left
   ·rw [if_pos (fromB_f c3)]; exact q1 (fun hg => c3 hg.2.2.1) H1 S1
   rw [if_neg (by rw [fromB_t c3]; decide)]
   rw [← h_u1, tHold]
   generalize h_u2 : tHold _ = u2
   walk_at "wps"
   by_cases c4 : (2 ≤ l ∧ l ≤ 64) ∧ 2 ≤ f ∧ f ≤ l
   rotate_left
   ·rw [if_pos c4]; exact q1 (fun hg => c4 hg.2.2.2) H1 S1
   rw [if_neg (not_not_intro c4)]
   have hg : good r o t g f l := ⟨c1, c2, c3, c4⟩
   have hp1 := S1 _ _ hp
   have hx1 := S1 _ _ hx
   rw [← h_u2, tHold]
   generalize h_u3 : tHold _ = u3
   walk_at "wps"
   refine co_tup (p := fun _ => true) (f := fun x => match x with | .int i => .int (needF i g) | _ => .non) (SqT.of hp1) (small_ok (by simp)) (fun x _ Q h => h) (fun x hx _ Q h => ?_) ?_
   ·simp only [List.mem_cons, List.not_mem_nil, or_false] at hx
    rcases hx with rfl | rfl <;> (walk_at "wps"; exact h)
   refine ⟨small_ok (by simp), fun l1 hl1 => ⟨[needF o g, needF t g], SqL.of upd_same, by simp, fun M hM hle => ?_⟩⟩
   have eM : M = leastF o t g := by
    have h1 := hle (needF o g) (by simp)
    have h2 := hle (needF t g) (by simp)
    simp only [List.mem_cons, List.not_mem_nil, or_false] at hM
    unfold leastF
    split <;> omega
   subst eM
   have S2 : Same H _ := fun b u e => same_upd (o := .lst ((([V.int o, V.int t] : List V).filter fun _ => true).map fun x => match x with | .int i => .int (needF i g) | _ => .non)) hl1 b u (S1 b u e)
   have hx2 := upd_old (o := .lst ((([V.int o, V.int t] : List V).filter fun _ => true).map fun x => match x with | .int i => .int (needF i g) | _ => .non)) hx1 hl1
   generalize upd H1 l1 (.lst ((([V.int o, V.int t] : List V).filter fun _ => true).map fun x => match x with | .int i => .int (needF i g) | _ => .non)) = H2 at *
   rw [← h_u3, tHold]
   generalize h_u4 : tHold _ = u4
   walk_at "wps"
   by_cases c5 : r < leastF o t g
   ·rw [if_pos c5]
    intro e he d hd
    refine ⟨_, rfl, ?_⟩
    obtain ⟨s1, s2⟩ := dropxl (C := C_NotWide) (l := [("least", .int (leastF o t g))]) S2 he hd
    exact q2 hg c5 _ d s1 s2
   rw [if_neg c5]
   rw [← h_u4, tHold]
   exists hx2
   refine q3 hg c5 _ ?_ upd_same
   exact fun b o hb hne => by rw [upd_ne hne]; exact S2 _ _ hb
  ·exact h.elim
theorem ok_has_whole_copy (T : Txt K mg C_Terms C_RoadError C_BadTerms C_NotWide)  : FnAt P w K mg base (CX1 P w) "has_whole_copy" 1 ["deed"] sp_has_whole_copy := by
 refine T.d_has_whole_copy.fn sc_has_whole_copy bd_has_whole_copy (fun vs H Q E h => ?_) fun f cdv A outer s H vs Q E HR h => ?_
 ·unfold sp_has_whole_copy at h; split at h <;> first | rfl | exact h.elim
 ·unfold sp_has_whole_copy at h
  split at h
  ·rename_i x
   refine ⟨_, (pss_one (ps_ret (pe_callBQ (call_anyK K rfl rfl) (by rfl) T.b_any bt_any (pa_q (pe_comp (N := (["copy"] : List Str)) (nv := 1) (ix := []) rfl (cs_of (by kernel_rfl)) (pi_seqK K rfl (pv 0)) (fun _ _ _ _ _ => (pg_name (i := 0) (show ((["copy"] : List Str)).Nodup by decide) rfl (Or.inl rfl))) (fun _ _ _ _ _ => pts_nil) (fun _ _ _ _ _ => (pe_cmpR (op_eqXK K rfl HR.units) (pe_ix (ix_K K rfl) (pv 0) pe_int (fun _ _ => rfl)) pe_int (nomark _)))) pa_nil)))), ?_⟩
   obtain ⟨ds, hD, q⟩ := h
   obtain ⟨cs, d1, d2, d3⟩ := hD
   have ld := paired_len d2
   walk_at "wps"
   refine co_list (p := fun _ => true) (f := zeV H) (SqL.of d1) (small_ok (by rw [List.length_map, ld]; exact d3)) (fun x _ Q h => h) (fun y hy _ Q h => ?_) ?_
   ·obtain ⟨cc, hcc, rfl⟩ := List.mem_map.mp hy
    obtain ⟨i, hi⟩ := List.getElem?_of_mem hcc
    obtain ⟨d, _, hd⟩ := paired_get d2 hi
    rw [zeV_at hd] at h
    walk_at "wps"
    refine ixA_tup (SqT.of hd) rfl ?_
    walk_at "wps"
    exact h
   rw [List.filter_eq_self.mpr (by simp), zeV_all d2]
   refine ⟨small_ok (by rw [List.length_map, List.length_map]; exact d3), fun l hl => ⟨_, SqL.of upd_same, ?_⟩⟩
   have e : (ds.map fun d => decide (d.2.2 = 0)).any id = wh ds := by unfold wh; rw [List.any_map]; rfl
   rw [e]
   exact q _ (same_upd hl)
  ·exact h.elim
theorem ok_fairness (T : Txt K mg C_Terms C_RoadError C_BadTerms C_NotWide)  : FnAt P w K mg base (CX1 P w) "fairness" 2 ["deeds"] sp_fairness := by
 refine T.d_fairness.fn sc_fairness bd_fairness (fun vs H Q E h => ?_) fun f cdv A outer s H vs Q E HR h => ?_
 ·unfold sp_fairness at h; split at h <;> first | rfl | exact h.elim
 ·unfold sp_fairness at h
  split at h
  ·rename_i l
   refine ⟨_, (pss_cons (ps_if (pt_cmpR (op_eqXK K rfl HR.units) (pe_callBQ (call_lenK K rfl) (by rfl) T.b_len bt_len (pa_q (pv 0) pa_nil)) pe_int (nomark _)) (pss_one (ps_ret pe_int)) pss_nil)
 (pss_hold (pss_cons (ps_setc (i := 1) (N := (["at", "deed"] : List Str)) (nv := 2) (ix := []) rfl sc_fairness.nd rfl rfl (cs_of (by kernel_rfl)) (pj_enum rfl T.b_enumerate (pa_q (pv 0) pa_nil)) (fun _ _ _ _ _ => (pg_tupX K (n := 2) rfl rfl (pgs_q (pg_name (i := 0) (show ((["at", "deed"] : List Str)).Nodup by decide) rfl (Or.inl rfl)) (pgs_q (pg_name (i := 1) (show ((["at", "deed"] : List Str)).Nodup by decide) rfl (Or.inl rfl)) pgs_nil)))) (fun _ _ _ _ _ => (pts_one (pt_q (pe_fnQ (ok_has_whole_copy T) HR (by decide) rfl (pa_q (pv 1) pa_nil))))) (fun _ _ _ _ _ => (pv 0)))
 (pss_hold (pss_cons (ps_if (pt_cmpR (op_eqXK K rfl HR.units) (pe_callBQ (call_lenK K rfl) (by rfl) T.b_len bt_len (pa_q (pv 1) pa_nil)) pe_int (nomark _)) (pss_one (ps_ret pe_non)) pss_nil)
 (pss_hold (pss_cons (ps_setQ (i := 2) sc_fairness.nd rfl (Or.inl rfl) (pe_op (op_addK K rfl) (pe_slice (sl_K K rfl) (pv 1) (po_some pe_int) po_none) (pe_lst (pa_q (pe_op (op_addK K rfl) (pe_ix (ix_K K rfl) (pv 1) pe_int (fun _ _ => rfl)) (pe_callBQ (call_lenK K rfl) (by rfl) T.b_len bt_len (pa_q (pv 0) pa_nil))) pa_nil))))
 (pss_hold (pss_one (ps_ret (pe_callBQ (call_maxB K rfl rfl) (by rfl) T.b_max bt_max (pa_q (pe_comp (N := (["at", "after"] : List Str)) (nv := 2) (ix := []) rfl (cs_of (by kernel_rfl)) (pj_zip rfl T.b_zip (pa_q (pv 1) (pa_q (pv 2) pa_nil))) (fun _ _ _ _ _ => (pg_tupX K (n := 2) rfl rfl (pgs_q (pg_name (i := 0) (show ((["at", "after"] : List Str)).Nodup by decide) rfl (Or.inl rfl)) (pgs_q (pg_name (i := 1) (show ((["at", "after"] : List Str)).Nodup by decide) rfl (Or.inl rfl)) pgs_nil)))) (fun _ _ _ _ _ => pts_nil) (fun _ _ _ _ _ => (pe_op op_sub (pv 1) (pv 0)))) pa_nil)))))))))))), ?_⟩
   obtain ⟨ds, hR, hn, q⟩ := h
   obtain ⟨xs0, hl, hp, hx3⟩ := hR
   have pl : (xs0.map V.ref).length = ds.length := by rw [List.length_map]; exact paired_len hp
   generalize eys : xs0.map V.ref = ys at *
   have wl : (ds.map wh).length = ds.length := List.length_map ..
   generalize h_u1 : tHold _ = u1
   walk_at "wps"
   refine ⟨_, .inl (SqL.of hl), ?_⟩
   by_cases c0 : (ys.length : Int) = 0
   ·rw [if_pos c0]
    have e : ds = [] := List.length_eq_zero_iff.mp (by omega)
    exact q _ H (Same.refl _) (.inl ⟨by rw [e]; rfl, rfl⟩)
   rw [if_neg c0]
   rw [← h_u1, tHold]
   generalize h_u2 : tHold _ = u2
   walk_at "wps"
   refine co_enumH hl (small_ok (by omega)) (fun i zs σ H' => Same H H' ∧ zs = ((List.range i).filter fun k => (ds.map wh).getD k false).map (fun k : Nat => V.int (k : Int)) ∧ ∃ v1 v2, σ = [v1, v2]) ⟨Same.refl _, by simp, _, _, rfl⟩ (fun i zs σ H' h => by rw [h.2.1, List.length_map]; exact Nat.le_trans (List.length_filter_le _ _) (by rw [List.length_range]; exact Nat.le_refl _)) (fun i zs σ H' h => h.1 _ _ hl) (fun i x p zs σ H' hx h hp' => ?_) (fun zs σ H' h => ?_)
   ·obtain ⟨sm, rfl, v1, v2, rfl⟩ := h
    rw [← eys, List.getElem?_map] at hx
    obtain ⟨l', ex0, rfl⟩ := Option.map_eq_some_iff.mp hx
    obtain ⟨d, hdi, hDd⟩ := paired_get hp ex0
    have sm2 : Same H (upd H' p (.tup [V.int (i : Int), V.ref l'])) := fun b o e => upd_old (sm b o e) hp'
    have ew : (ds.map wh).getD i false = wh d := by rw [List.getD_eq_getElem?_getD, List.getElem?_map, hdi]; rfl
    exists upd_same
    refine ⟨d, hDd.same sm2, fun H3 sm3 => ?_⟩
    have sm4 : Same H H3 := fun b o e => sm3 _ _ (sm2 b o e)
    cases e : wh d
    ·rw [if_neg (by decide)]
     refine ⟨sm4, ?_, _, _, rfl⟩
     rw [List.range_succ, List.filter_append, List.filter_cons, List.filter_nil, if_neg (by rw [ew, e]; decide), List.append_nil]
    ·rw [if_pos rfl]
     refine ⟨sm4, ?_, _, _, rfl⟩
     rw [List.range_succ, List.filter_append, List.filter_cons, List.filter_nil, if_pos (by rw [ew, e]), List.map_append]
     rfl
   obtain ⟨sm, rfl, v1, v2, rfl⟩ := h
   have ei : ((List.range ys.length).filter fun k => (ds.map wh).getD k false) = idx (ds.map wh) := by unfold idx; rw [wl, pl]
   rw [ei]
   have il : (idx (ds.map wh)).length ≤ 60 := by
    unfold idx
    exact Nat.le_trans (List.length_filter_le _ _) (by rw [List.length_range]; omega)
   refine ⟨small_ok (by rw [List.length_map]; omega), fun l1 hl1 => ?_⟩
   have sm1 : Same H (upd H' l1 (.lst ((idx (ds.map wh)).map (fun k : Nat => V.int (k : Int))))) := fun b o e => upd_old (sm b o e) hl1
   have e1 := upd_same (H := H') (a := l1) (o := .lst ((idx (ds.map wh)).map (fun k : Nat => V.int (k : Int))))
   generalize upd H' l1 (.lst ((idx (ds.map wh)).map (fun k : Nat => V.int (k : Int)))) = H1 at *
   have hl1' := sm1 _ _ hl
   rw [← h_u2, tHold]
   generalize h_u3 : tHold _ = u3
   walk_at "wps"
   refine ⟨_, .inl (SqL.of e1), ?_⟩
   by_cases c1 : idx (ds.map wh) = []
   ·rw [if_pos (by rw [c1]; rfl)]
    refine q _ H1 sm1 (.inr (.inl ⟨fun e => ?_, c1, rfl⟩))
    have : (ds.map wh).length = 0 := by rw [e]; rfl
    omega
   have ip : 0 < (idx (ds.map wh)).length := List.length_pos_iff.mpr c1
   rw [if_neg (by rw [List.length_map]; omega)]
   obtain ⟨a0, rest, eidx⟩ : ∃ a0 rest, idx (ds.map wh) = a0 :: rest := by
    cases e : idx (ds.map wh) with
    | nil => exact absurd e c1
    | cons a r => exact ⟨a, r, rfl⟩
   have el : ltr (ds.map wh) = rest ++ [a0 + ds.length] := by unfold ltr; rw [eidx, wl]; rfl
   have e1c : H1 l1 = some (.lst (V.int (a0 : Int) :: rest.map (fun k : Nat => V.int (k : Int)))) := by rw [e1, eidx]; rfl
   rw [← h_u3, tHold]
   generalize h_u4 : tHold _ = u4
   walk_at "wps"
   refine rSlA_list (SqL.of e1c) fun l2 hl2 => ?_
   rw [cut1]
   have e2 := upd_old (o := .lst (rest.map (fun k : Nat => V.int (k : Int)))) e1c hl2
   have e2l := upd_old (o := .lst (rest.map (fun k : Nat => V.int (k : Int)))) hl1' hl2
   have e2s := upd_same (H := H1) (a := l2) (o := .lst (rest.map (fun k : Nat => V.int (k : Int))))
   have sm2 : Same H (upd H1 l2 (.lst (rest.map (fun k : Nat => V.int (k : Int))))) := fun b o e => upd_old (sm1 b o e) hl2
   generalize upd H1 l2 (.lst (rest.map (fun k : Nat => V.int (k : Int)))) = H2 at *
   refine ixA_list (SqL.of e2) atI_0 ?_
   refine ⟨_, .inl (SqL.of e2l), ?_⟩
   walk_at "wps"
   intro l3 hl3
   have rl : rest.length ≤ 60 := by rw [eidx, List.length_cons] at il; omega
   refine addA_lists (upd_old e2s hl3) upd_same (small_ok (by simp; omega)) fun l4 hl4 => ?_
   have ex : upd (upd H2 l3 (HO.lst [V.int ((a0 : Int) + ys.length)])) l4 (HO.lst (rest.map (fun k : Nat => V.int (k : Int)) ++ [V.int ((a0 : Int) + ys.length)])) l1 = some (.lst ((idx (ds.map wh)).map (fun k : Nat => V.int (k : Int)))) := by
    rw [eidx]
    exact upd_old (upd_old e2 hl3) hl4
   have ey : upd (upd H2 l3 (HO.lst [V.int ((a0 : Int) + ys.length)])) l4 (HO.lst (rest.map (fun k : Nat => V.int (k : Int)) ++ [V.int ((a0 : Int) + ys.length)])) l4 = some (.lst ((ltr (ds.map wh)).map (fun k : Nat => V.int (k : Int)))) := by
    rw [upd_same, el, List.map_append, pl]
    simp
   have sm4 : Same H (upd (upd H2 l3 (HO.lst [V.int ((a0 : Int) + ys.length)])) l4 (HO.lst (rest.map (fun k : Nat => V.int (k : Int)) ++ [V.int ((a0 : Int) + ys.length)]))) := fun b o e => upd_old (upd_old (sm2 b o e) hl3) hl4
   generalize upd (upd H2 l3 (HO.lst [V.int ((a0 : Int) + ys.length)])) l4 (HO.lst (rest.map (fun k : Nat => V.int (k : Int)) ++ [V.int ((a0 : Int) + ys.length)])) = H4 at *
   have lln := ltr_len c1
   rw [← h_u4, tHold]
   walk_at "wps"
   refine co_zipH ex ey (by rw [List.length_map, List.length_map]; exact lln) (small_ok (by rw [List.length_map]; omega)) (fun i zs σ H' => Same H4 H' ∧ zs = ((gaps (ds.map wh)).take i).map V.int ∧ ∃ v1 v2, σ = [v1, v2]) ⟨Same.refl _, by simp, _, _, rfl⟩ (fun i zs σ H' h => by rw [h.2.1, List.length_map, List.length_take]; exact Nat.min_le_left _ _) (fun i zs σ H' h => ⟨h.1 _ _ ex, h.1 _ _ ey⟩) (fun i x y p zs σ H' hx hy h hp' => ?_) (fun zs σ H' h => ?_)
   ·obtain ⟨sm5, rfl, v1, v2, rfl⟩ := h
    rw [List.getElem?_map] at hx hy
    obtain ⟨a, ea, rfl⟩ := Option.map_eq_some_iff.mp hx
    obtain ⟨b, eb, rfl⟩ := Option.map_eq_some_iff.mp hy
    have eg : (gaps (ds.map wh))[i]? = some ((b : Int) - (a : Int)) := by
     unfold gaps
     rw [List.getElem?_zipWith, ea, eb]
    exists upd_same
    exact ⟨fun b o e => upd_old (sm5 b o e) hp', by rw [List.take_add_one, eg, List.map_append]; rfl, _, _, rfl⟩
   ·obtain ⟨sm5, rfl, v1, v2, rfl⟩ := h
    have gl : (gaps (ds.map wh)).length = (idx (ds.map wh)).length := by
     unfold gaps
     rw [List.length_zipWith, lln, Nat.min_self]
    have tk : (gaps (ds.map wh)).take ((idx (ds.map wh)).map (fun k : Nat => V.int (k : Int))).length = gaps (ds.map wh) := List.take_of_length_le (by rw [List.length_map]; omega)
    rw [tk]
    refine ⟨small_ok (by rw [List.length_map]; omega), fun l6 hl6 => ⟨gaps (ds.map wh), SqL.of upd_same, by omega, fun M hM hle => ?_⟩⟩
    exact q _ _ (fun b o e => upd_old (sm5 _ _ (sm4 b o e)) hl6) (.inr (.inr ⟨c1, M, rfl, hM, hle⟩))
  ·exact h.elim
theorem ok_things_of (T : Txt K mg C_Terms C_RoadError C_BadTerms C_NotWide)  : FnAt P w K mg base (CX1 P w) "things_of" 1 ["wish"] sp_things_of := by
 refine T.d_things_of.fn sc_things_of bd_things_of (fun vs H Q E h => ?_) fun f cdv A outer s H vs Q E HR h => ?_
 ·unfold sp_things_of at h; split at h <;> first | rfl | exact h.elim
 ·unfold sp_things_of at h
  split at h
  ·rename_i x
   refine ⟨_, (pss_cons (ps_if (pt_cmpR (op_eqXK K rfl HR.units) (pe_ix (ix_B K rfl) (pv 0) pe_int (fun _ _ => rfl)) pe_str (nomark _)) (pss_one (ps_ret (pe_cst rfl T.c_THINGS_OF_BEGIN))) pss_nil)
 (pss_cons (ps_if (pt_cmpR (op_eqXK K rfl HR.units) (pe_ix (ix_B K rfl) (pv 0) pe_int (fun _ _ => rfl)) pe_str (nomark _)) (pss_one (ps_ret (pe_op op_fdivW (pe_op op_sub (pe_op (op_addK K rfl) (pe_callBQ (call_lenB K rfl) (by rfl) T.b_len bt_len (pa_q (pe_ix (ix_B K rfl) (pv 0) pe_int (fun _ _ => rfl)) pa_nil)) (pe_cst rfl T.c_SIGNS_MOST)) pe_int) (pe_cst rfl T.c_SIGNS_MOST)))) pss_nil)
 (pss_one (ps_ret pe_int)))), ?_⟩
   obtain ⟨w, ⟨sd, hx, hw⟩, q⟩ := h
   exists hx
   unfold thF at q
   by_cases c1 : w.2.1 = "begin"
   ·rw [if_pos c1] at q ⊢
    exact q
   ·rw [if_neg c1] at q ⊢
    by_cases c2 : w.2.1 = "put"
    ·rw [if_pos c2] at q ⊢
     obtain ⟨z, hz, hl⟩ := hw.1 c2
     rw [hz] at q ⊢
     walk_at "wps"
     rw [show (z.length : Int) + 4 - 1 = (z.length : Int) + 3 by omega]
     exact ⟨by rw [sizeLine_eq]; omega, divW_s (by decide) (by decide), q⟩
    ·rw [if_neg c2] at q ⊢
     exact q
  ·exact h.elim
theorem ok_things_at_most (T : Txt K mg C_Terms C_RoadError C_BadTerms C_NotWide)  : FnAt P w K mg base (CX1 P w) "things_at_most" 2 ["wishes"] sp_things_at_most := by
 refine T.d_things_at_most.fn sc_things_at_most bd_things_at_most (fun vs H Q E h => ?_) fun f cdv A outer s H vs Q E HR h => ?_
 ·unfold sp_things_at_most at h; split at h <;> first | rfl | exact h.elim
 ·unfold sp_things_at_most at h
  split at h
  ·rename_i p
   refine ⟨_, (pss_one (ps_ret (pe_callBQ (call_sumK K rfl rfl) (by rfl) T.b_sum bt_sum (pa_q (pe_comp (N := (["wish"] : List Str)) (nv := 1) (ix := []) rfl (cs_of (by kernel_rfl)) (pi_seqK K rfl (pv 0)) (fun _ _ _ _ _ => (pg_name (i := 0) (show ((["wish"] : List Str)).Nodup by decide) rfl (Or.inl rfl))) (fun _ _ _ _ _ => pts_nil) (fun _ _ _ _ _ => (pe_fnQ (ok_things_of T) HR (by decide) rfl (pa_q (pv 0) pa_nil)))) pa_nil)))), ?_⟩
   obtain ⟨ws, ⟨xs, h1, h2, h3⟩, q⟩ := h
   have hl := paired_len h2
   walk_at "wps"
   refine co_listH (xs := xs.map V.ref) (SqL.of h1) (small_ok (by rw [List.length_map]; omega)) (fun i ys σ H' => H' = H ∧ ys = ((ws.take i).map thF).map V.int ∧ ∃ v, σ = [v]) ⟨rfl, rfl, _, rfl⟩ (fun i ys σ H' hh => by rw [hh.2.1, List.length_map, List.length_map, List.length_take]; exact Nat.min_le_left _ _) (fun i ys σ H' hh => by rw [hh.1]; exact SqL.of h1) (fun i x ys σ H' hx hh => ?_) (fun ys σ H' hh => ?_)
   ·obtain ⟨rfl, rfl, v, rfl⟩ := hh
    rw [List.getElem?_map] at hx
    obtain ⟨a, ha, rfl⟩ := Option.map_eq_some_iff.mp hx
    obtain ⟨w, hw, hW⟩ := paired_get h2 ha
    walk_at "wps"
    refine ⟨w, hW, ?_, _, rfl⟩
    rw [List.take_add_one, hw, List.map_append, List.map_append]
    rfl
   obtain ⟨rfl, rfl, v, rfl⟩ := hh
   rw [List.take_of_length_le (by rw [List.length_map]; omega)]
   exact ⟨small_ok (by rw [List.length_map, List.length_map]; omega), fun l hl => ⟨_, SqL.of upd_same, q _ (same_upd hl)⟩⟩
  ·exact h.elim
theorem ok_last_turn_of (T : Txt K mg C_Terms C_RoadError C_BadTerms C_NotWide)  : FnAt P w K mg base (CX1 P w) "last_turn_of" 1 ["wishes"] sp_last_turn_of := by
 refine T.d_last_turn_of.fn sc_last_turn_of bd_last_turn_of (fun vs H Q E h => ?_) fun f cdv A outer s H vs Q E HR h => ?_
 ·unfold sp_last_turn_of at h; split at h <;> first | rfl | exact h.elim
 ·unfold sp_last_turn_of at h
  split at h
  ·rename_i p
   refine ⟨_, (pss_one (ps_ret (pe_maxD K rfl rfl rfl T.b_max (pa_q (pe_comp (N := (["wish"] : List Str)) (nv := 1) (ix := []) rfl (cs_of (by kernel_rfl)) (pi_seqK K rfl (pv 0)) (fun _ _ _ _ _ => (pg_name (i := 0) (show ((["wish"] : List Str)).Nodup by decide) rfl (Or.inl rfl))) (fun _ _ _ _ _ => pts_nil) (fun _ _ _ _ _ => (pe_ix (ix_B K rfl) (pv 0) pe_int (fun _ _ => rfl)))) pa_nil) (pe_un un_neg pe_int)))), ?_⟩
   obtain ⟨ws, ⟨xs, h1, h2, h3⟩, q⟩ := h
   have hl := paired_len h2
   walk_at "wps"
   refine co_listH (xs := xs.map V.ref) (SqL.of h1) (small_ok (by rw [List.length_map]; omega)) (fun i ys σ H' => H' = H ∧ ys = ((ws.take i).map (fun w => w.1)).map V.int ∧ ∃ v, σ = [v]) ⟨rfl, rfl, _, rfl⟩ (fun i ys σ H' hh => by rw [hh.2.1, List.length_map, List.length_map, List.length_take]; exact Nat.min_le_left _ _) (fun i ys σ H' hh => by rw [hh.1]; exact SqL.of h1) (fun i x ys σ H' hx hh => ?_) (fun ys σ H' hh => ?_)
   ·obtain ⟨rfl, rfl, v, rfl⟩ := hh
    rw [List.getElem?_map] at hx
    obtain ⟨a, ha, rfl⟩ := Option.map_eq_some_iff.mp hx
    obtain ⟨w, hw, ⟨sd, hW, _⟩⟩ := paired_get h2 ha
    exists hW
    refine ⟨?_, _, rfl⟩
    rw [List.take_add_one, hw, List.map_append, List.map_append]
    rfl
   obtain ⟨rfl, rfl, v, rfl⟩ := hh
   rw [List.take_of_length_le (by rw [List.length_map]; omega)]
   refine ⟨small_ok (by rw [List.length_map, List.length_map]; omega), fun l hl => ⟨_, SqL.of upd_same, fun e => ?_, fun _ M hM hle => ?_⟩⟩
   ·have e' : ws = [] := List.map_eq_nil_iff.mp e
    exact q _ _ (same_upd hl) (.inl ⟨e', rfl⟩)
   ·obtain ⟨w, hw, rfl⟩ := List.mem_map.mp hM
    exact q _ _ (same_upd hl) (.inr ⟨⟨w, hw, rfl⟩, fun w' hw' => hle _ (List.mem_map_of_mem hw')⟩)
  ·exact h.elim
theorem sum_th {ws : List Wi} (h : ∀ w ∈ ws, wok w) : 0 ≤ (ws.map thF).sum ∧ (ws.map thF).sum ≤ 16 * ws.length := by
 induction ws with
 | nil => exact ⟨Int.le_refl _, Int.le_refl _⟩
 | cons w l ih =>
  have ih := ih fun x hx => h x (List.mem_cons_of_mem _ hx)
  have hw : 0 ≤ thF w ∧ thF w ≤ 16 := by
   unfold thF
   split
   ·decide
   ·split
    ·rename_i c
     obtain ⟨z, hz, hl⟩ := (h w (List.mem_cons_self ..)).1 c
     rw [hz]
     show 0 ≤ ((z.length : Int) + 3) / 4 ∧ ((z.length : Int) + 3) / 4 ≤ 16
     omega
    ·decide
  rw [List.map_cons, List.sum_cons, List.length_cons]
  omega
theorem FairR.le {ws : List Bool} {v : V} (h : FairR ws v) (hl : ws.length ≤ 60) : v = .non ∨ ∃ x, v = .int x ∧ 1 ≤ x ∧ x ≤ 60 := by
 rcases h with ⟨_, rfl⟩ | ⟨_, _, rfl⟩ | ⟨_, M, rfl, hM, hle⟩
 ·exact .inr ⟨1, rfl, by decide, by decide⟩
 ·exact .inl rfl
 ·have := fair_ok hM hle
  exact .inr ⟨M, rfl, this.1, by omega⟩
theorem paired_get' {α β : Type} {R : α → β → Prop} {xs : List α} {ys : List β} (p : Paired R xs ys) {i : Nat} {y : β} (h : ys[i]? = some y) : ∃ x, xs[i]? = some x ∧ R x y := by
 induction p generalizing i with
 | nil => simp at h
 | cons r _ ih =>
  cases i with
  | zero => simp at h; subst h; exact ⟨_, rfl, r⟩
  | succ i => simpa using ih (by simpa using h)
theorem ok_reckoned (T : Txt K mg C_Terms C_RoadError C_BadTerms C_NotWide)  : FnAt P w K mg base (CX1 P w) "reckoned" 3 ["terms", "roads", "wishes"] (sp_reckoned C_Terms) := by
 refine T.d_reckoned.fn sc_reckoned bd_reckoned (fun vs H Q E h => ?_) fun f cdv A outer s H vs Q E HR h => ?_
 ·unfold sp_reckoned at h; split at h <;> first | rfl | exact h.elim
 ·unfold sp_reckoned at h
  split at h
  ·rename_i tm rd wi
   refine ⟨_, (pss_cons (ps_setc (i := 3) (N := (["deeds"] : List Str)) (nv := 1) (ix := []) rfl sc_reckoned.nd rfl rfl (cs_of (by kernel_rfl)) (pi_seqK K rfl (pv 1)) (fun _ _ _ _ _ => (pg_name (i := 0) (show ((["deeds"] : List Str)).Nodup by decide) rfl (Or.inl rfl))) (fun _ _ _ _ _ => pts_nil) (fun _ _ _ _ _ => (pe_fnQ (ok_fairness T) HR (by decide) rfl (pa_q (pv 0) pa_nil))))
 (pss_hold (pss_cons (ps_if (pt_cmpR (op_inK K rfl) pe_non (pv 3) (nomarkQ rfl)) (pss_one (ps_ret pe_non)) pss_nil)
 (pss_hold (pss_cons (ps_setQ (i := 4) sc_reckoned.nd rfl (Or.inl rfl) (pe_callBQ (call_maxB K rfl rfl) (by rfl) T.b_max bt_max (pa_q (pv 3) pa_nil)))
 (pss_cons (ps_setQ (i := 5) sc_reckoned.nd rfl (Or.inl rfl) (pe_fldC (pv 0) T.k_Terms T.n_Terms_lag rfl))
 (pss_hold (pss_cons (ps_setQ (i := 6) sc_reckoned.nd rfl (Or.inl rfl) (pe_op (op_addK K rfl) (pe_op (op_addK K rfl) (pe_op op_mul pe_int (pe_fnQ (ok_things_at_most T) HR (by decide) rfl (pa_q (pv 2) pa_nil))) (pe_callBQ (call_sumT K rfl rfl) (by rfl) T.b_sum bt_sum (pa_q (pe_fldC (pv 0) T.k_Terms T.n_Terms_rooms rfl) pa_nil))) pe_int))
 (pss_hold (pss_cons (ps_setQ (i := 7) sc_reckoned.nd rfl (Or.inl rfl) (pe_op (op_addK K rfl) (pe_op (op_addK K rfl) (pe_op op_mulW (pv 4) (pe_op (op_addK K rfl) (pe_op op_mulW (pv 4) (pe_fldC (pv 0) T.k_Terms T.n_Terms_longest rfl)) (pv 5))) (pe_op op_mul pe_int (pv 5))) pe_int))
 (pss_hold (pss_one (ps_ret (pe_op (op_addK K rfl) (pe_op (op_addK K rfl) (pe_op (op_addK K rfl) (pe_op (op_addK K rfl) (pe_fnQ (ok_last_turn_of T) HR (by decide) rfl (pa_q (pv 2) pa_nil)) pe_int) (pe_op op_mulW (pv 6) (pv 7))) (pe_op op_mul pe_int (pv 5))) pe_int)))))))))))))), ?_⟩
   obtain ⟨r, o, t, g, f, l, pa, pb, da, db, ws, hT, hg, hrd, hda, hdb, hl, hw, q⟩ := h
   generalize h_u1 : tHold _ = u1
   walk_at "wps"
   refine co_tupH (xs := [.ref pa, .ref pb]) (SqT.of hrd) (small_ok (by show 2 ≤ 1000; decide)) (fun i ys σ H' => Same H H' ∧ (∃ v, σ = [v]) ∧ ((i = 0 ∧ ys = []) ∨ (i = 1 ∧ ∃ va, FairR (da.map wh) va ∧ ys = [va]) ∨ (i = 2 ∧ ∃ va vb, FairR (da.map wh) va ∧ FairR (db.map wh) vb ∧ ys = [va, vb]))) ⟨Same.refl _, ⟨_, rfl⟩, .inl ⟨rfl, rfl⟩⟩ (fun i ys σ H' hh => by obtain ⟨_, _, ⟨rfl, rfl⟩ | ⟨rfl, _, _, rfl⟩ | ⟨rfl, _, _, _, _, rfl⟩⟩ := hh <;> simp) (fun i ys σ H' hh => SqT.of (hh.1 _ _ hrd)) (fun i x ys σ H' hx hh => ?_) (fun ys σ H' hh => ?_)
   ·obtain ⟨sm, ⟨v, rfl⟩, ⟨rfl, rfl⟩ | ⟨rfl, va, hva, rfl⟩ | ⟨rfl, va, vb, _, _, rfl⟩⟩ := hh
    ·simp at hx
     subst hx
     walk_at "wps"
     refine ⟨da, hda.same sm, hl.1, fun v1 H1 sm1 hv1 => ⟨fun b o e => sm1 _ _ (sm b o e), ⟨_, rfl⟩, .inr (.inl ⟨v1, hv1, rfl⟩)⟩⟩
    ·simp at hx
     subst hx
     walk_at "wps"
     refine ⟨db, hdb.same sm, hl.2, fun v1 H1 sm1 hv1 => ⟨fun b o e => sm1 _ _ (sm b o e), ⟨_, rfl⟩, .inr (.inr ⟨va, v1, hva, hv1, rfl⟩)⟩⟩
    ·simp at hx
   obtain ⟨sm, ⟨v, rfl⟩, ⟨h0, _⟩ | ⟨h0, _⟩ | ⟨_, va, vb, hva, hvb, rfl⟩⟩ := hh
   ·cases h0
   ·cases h0
   refine ⟨small_ok (by simp), fun pf hpf => ?_⟩
   have sm1 : Same H (upd H' pf (.lst [va, vb])) := fun b o e => upd_old (sm b o e) hpf
   have hf1 := upd_same (H := H') (a := pf) (o := .lst [va, vb])
   generalize upd H' pf (.lst [va, vb]) = H1 at *
   have la := hva.le (by rw [List.length_map]; exact hl.1)
   have lb := hvb.le (by rw [List.length_map]; exact hl.2)
   have fl : [va, vb].all flatV = true := by
    rcases la with rfl | ⟨x, rfl, _⟩ <;> rcases lb with rfl | ⟨y, rfl, _⟩ <;> rfl
   rw [← h_u1, tHold]
   generalize h_u2 : tHold _ = u2
   walk_at "wps"
   refine ⟨[va, vb], .inl (SqL.of hf1), rfl, fl, ?_⟩
   by_cases cn : va = .non ∨ vb = .non
   ·have ei : inV .non [va, vb] = true := by
     rcases cn with rfl | rfl
     ·rfl
     ·rcases la with rfl | ⟨x, rfl, _⟩ <;> rfl
    rw [if_pos ei]
    exact (q va vb H1 sm1 hva hvb).1 cn
   obtain ⟨x, rfl, hx⟩ : ∃ x, va = .int x ∧ 1 ≤ x ∧ x ≤ 60 := by rcases la with c | c; (· exact absurd (.inl c) cn); (· exact c)
   obtain ⟨y, rfl, hy⟩ : ∃ y, vb = .int y ∧ 1 ≤ y ∧ y ≤ 60 := by rcases lb with c | c; (· exact absurd (.inr c) cn); (· exact c)
   have ei : inV .non [V.int x, V.int y] = false := rfl
   rw [if_neg (by rw [ei]; decide)]
   rw [← h_u2, tHold]
   generalize h_u3 : tHold _ = u3
   walk_at "wps"
   refine ⟨[x, y], SqL.of hf1, by simp, fun M hM hle => ?_⟩
   have eM : M = if x < y then y else x := by
    have h1 := hle x (by simp)
    have h2 := hle y (by simp)
    simp only [List.mem_cons, List.not_mem_nil, or_false] at hM
    split <;> omega
   have hM1 : 1 ≤ M ∧ M ≤ 60 := by rw [eM]; split <;> omega
   obtain ⟨dx, p, hT1, hp1⟩ := hT.same sm1
   obtain ⟨hg1, hg2, hg3, hg4, hg5⟩ := hg
   have sth := sum_th (ws := ws) (fun w hw' => by
    obtain ⟨xs, _, h2, _⟩ := hw
    obtain ⟨i, hi⟩ := List.getElem?_of_mem hw'
    obtain ⟨a, _, sd, _, hok⟩ := paired_get' h2 hi
    exact hok)
   have hwl : ws.length ≤ 100 := by obtain ⟨_, _, _, h⟩ := hw; exact h
   rw [← h_u3, tHold]
   generalize h_u4 : tHold _ = u4
   exists hT1
   refine ⟨ws, hw.same sm1, fun H2 sm2 => ?_⟩
   have hT2 := sm2 _ _ hT1
   have hp2 := sm2 _ _ hp1
   exists hT2
   refine ⟨[o, t], SqT.of hp2, ?_⟩
   rw [show [o, t].sum = o + t by simp]
   generalize (ws.map thF).sum = n at *
   rw [← h_u4, tHold]
   generalize h_u5 : tHold _ = u5
   exists hT2
   refine ⟨mulW_l ⟨by omega, by omega⟩, mulW_l ⟨by omega, by omega⟩, ?_⟩
   rw [← h_u5, tHold]
   walk_at "wps"
   refine ⟨ws, (hw.same sm1).same sm2, fun M1 H3 sm3 hM1 => ⟨mulW_l ⟨by omega, by omega⟩, ?_⟩⟩
   have := (q _ _ H3 (fun b o e => sm3 _ _ (sm2 _ _ (sm1 b o e))) hva hvb).2 x y M1 rfl rfl hM1
   unfold recF at this
   rw [← eM] at this
   exact this
  ·exact h.elim
theorem ok__law_cell_at (T : Txt K mg C_Terms C_RoadError C_BadTerms C_NotWide)  : FnAt P w K mg base (CX1 P w) "_law_cell_at" 1 ["_law_script", "_law_k"] (sp__law_cell_at K) := by
 refine T.d__law_cell_at.fn sc__law_cell_at bd__law_cell_at (fun vs H Q E h => ?_) fun f cdv A outer s H vs Q E HR h => ?_
 ·unfold sp__law_cell_at at h; split at h <;> first | rfl | exact h.elim
 ·unfold sp__law_cell_at at h
  split at h
  ·rename_i a k
   refine ⟨_, (pss_cons (ps_if (pt_cmpR op_lt (pv 1) (pe_callBQ (call_lenK K rfl) (by rfl) T.b_len bt_len (pa_q (pv 0) pa_nil)) (nomark _)) (pss_one (ps_ret (pe_ix (ix_K K rfl) (pv 0) (pv 1) (fun _ _ => rfl)))) pss_nil)
 (pss_one (ps_ret pe_int))), ?_⟩
   obtain ⟨ns, hS, h0, q⟩ := h
   walk_at "wps"
   refine ⟨_, .inl hS, ?_⟩
   rw [List.length_map]
   split
   ·rename_i c; exact ixA_ints hS h0 c (q _)
   ·exact q _
  ·exact h.elim
theorem DeedT.snoc {H : Hp} {p pn : Addr} {d : Cp} {l : List V} {ds : List Cp} (h : DeedT H p ds) (n : H pn = none) (hp : H p = some (.lst l)) (hl : ds.length < 1000) : DeedT (upd (upd H pn (.tup [.int d.1, .int d.2.1, .int d.2.2])) p (.lst (l ++ [.ref pn]))) p (ds ++ [d]) := by
 obtain ⟨cs, h1, h2, h3⟩ := h
 rw [hp] at h1
 cases h1
 have ne : pn ≠ p := fun z => by rw [z, hp] at n; cases n
 refine ⟨cs ++ [pn], by rw [upd_same]; simp, paired_snoc (paired_imp h2 fun c m u => ?_) ?_, by rw [List.length_append]; simp; omega⟩
 ·have nc : c ≠ p := fun z => by unfold CopyT at u; rw [z, hp] at u; cases u
  unfold CopyT at u ⊢
  rw [upd_ne nc]
  exact upd_old u n
 ·unfold CopyT
  rw [upd_ne ne, upd_same]
theorem ok__law_whole (T : Txt K mg C_Terms C_RoadError C_BadTerms C_NotWide)  : FnAt P w K mg base (CX1 P w) "_law_whole" 1 ["_law_found"] sp__law_whole := by
 refine T.d__law_whole.fn sc__law_whole bd__law_whole (fun vs H Q E h => ?_) fun f cdv A outer s H vs Q E HR h => ?_
 ·unfold sp__law_whole at h; split at h <;> first | rfl | exact h.elim
 ·unfold sp__law_whole at h
  split at h
  ·rename_i i
   refine ⟨_, (pss_one (ps_ret (pe_and (pe_callBQ (call_isiB K rfl) (by rfl) T.b_isinstance bt_isinstance (pa_q (pv 0) (pa_q (pe_ty rfl T.b_int bt_int) pa_nil))) (pe_one (pe_not (pe_callBQ (call_isiB K rfl) (by rfl) T.b_isinstance bt_isinstance (pa_q (pv 0) (pa_q (pe_ty rfl T.b_bool bt_bool) pa_nil)))))))), ?_⟩
   walk_at "wps"
   exact h
  ·exact h.elim
theorem ok__law_is_row (T : Txt K mg C_Terms C_RoadError C_BadTerms C_NotWide)  : FnAt P w K mg base (CX1 P w) "_law_is_row" 1 ["_law_cell"] sp__law_is_row := by
 refine T.d__law_is_row.fn sc__law_is_row bd__law_is_row (fun vs H Q E h => ?_) fun f cdv A outer s H vs Q E HR h => ?_
 ·unfold sp__law_is_row at h; split at h <;> first | rfl | exact h.elim
 ·unfold sp__law_is_row at h
  split at h
  ·rename_i c
   refine ⟨_, (pss_one (ps_ret (pe_and (pe_cmpR op_ge (pv 0) (pe_op op_shlA pe_int pe_int) (nomark _)) (pe_one (pe_cmpR (op_eqXK K rfl HR.units) (pe_op op_mod (pv 0) pe_int) pe_int (nomark _)))))), ?_⟩
   walk_at "wps"
   refine ⟨⟨⟨by decide, by decide⟩, by decide +kernel, by decide +kernel⟩, ?_⟩
   split
   ·exact h _
   ·exact h _
  ·exact h.elim
theorem mod31 (x : Int) : 0 ≤ x % 2147483647 ∧ x % 2147483647 < 2147483647 := ⟨Int.emod_nonneg _ (by decide), Int.emod_lt_of_pos _ (by decide)⟩
theorem ok__law_digit (T : Txt K mg C_Terms C_RoadError C_BadTerms C_NotWide)  : FnAt P w K mg base (CX1 P w) "_law_digit" 1 ["_law_cell", "_law_k"] sp__law_digit := by
 refine T.d__law_digit.fn sc__law_digit bd__law_digit (fun vs H Q E h => ?_) fun f cdv A outer s H vs Q E HR h => ?_
 ·unfold sp__law_digit at h; split at h <;> first | rfl | exact h.elim
 ·unfold sp__law_digit at h
  split at h
  ·rename_i c k
   refine ⟨_, (pss_cons (ps_if (pt_cmpR op_gt (pe_op op_shr (pv 0) (pe_op (op_addK K rfl) pe_int (pe_op op_mul pe_int (pv 1)))) pe_int (nomark _)) (pss_one (ps_ret (pe_op op_mod (pe_op op_shr (pv 0) (pe_op (op_addK K rfl) pe_int (pe_op op_mul pe_int (pv 1)))) pe_int))) pss_nil)
 (pss_cons (ps_setQ (i := 2) sc__law_digit.nd rfl (Or.inl rfl) (pe_op op_mod (pe_op op_mul (pe_op (op_addK K rfl) (pe_op (op_addK K rfl) (pv 0) (pe_op op_mul pe_int (pv 1))) pe_int) pe_int) pe_int))
 (pss_cons (ps_setQ (i := 2) sc__law_digit.nd rfl (Or.inl rfl) (pe_op op_mod (pe_op op_mulW (pv 2) (pe_op (op_addK K rfl) (pe_op op_fdiv (pv 2) pe_int) pe_int)) pe_int))
 (pss_one (ps_ret (pe_op op_mod (pe_op op_mulW (pv 2) (pe_op (op_addK K rfl) (pe_op (op_addK K rfl) (pe_op op_fdiv (pv 2) pe_int) pe_int) (pv 1))) pe_int)))))), ?_⟩
   obtain ⟨hk, q⟩ := h
   walk_at "wps"
   refine ⟨by omega, ?_⟩
   split
   ·exact ⟨by omega, q _ (Int.emod_nonneg _ (by decide)) (Int.emod_lt_of_pos _ (by decide))⟩
   ·have h1 := mod31 ((c + 7919 * k + 1) * 48271)
    generalize (c + 7919 * k + 1) * 48271 % 2147483647 = a at *
    have h2 := mod31 (a * (a / 1009 + 69621))
    generalize a * (a / 1009 + 69621) % 2147483647 = b at *
    refine ⟨mulW_l ⟨by omega, by omega⟩, mulW_l ⟨by omega, by omega⟩, q _ (Int.emod_nonneg _ (by decide)) ?_⟩
    have := Int.emod_lt_of_pos (b * (b / 2003 + 39373 + k)) (show (0 : Int) < 2147483629 by decide)
    omega
  ·exact h.elim
theorem ok__law_mixed (T : Txt K mg C_Terms C_RoadError C_BadTerms C_NotWide)  : FnAt P w K mg base (CX1 P w) "_law_mixed" 1 ["_law_cell", "_law_k"] sp__law_mixed := by
 refine T.d__law_mixed.fn sc__law_mixed bd__law_mixed (fun vs H Q E h => ?_) fun f cdv A outer s H vs Q E HR h => ?_
 ·unfold sp__law_mixed at h; split at h <;> first | rfl | exact h.elim
 ·unfold sp__law_mixed at h
  split at h
  ·rename_i c k
   refine ⟨_, (pss_cons (ps_setQ (i := 2) sc__law_mixed.nd rfl (Or.inl rfl) (pe_op op_mod (pe_op op_mul (pe_op (op_addK K rfl) (pe_op (op_addK K rfl) (pv 0) (pe_op op_mul pe_int (pv 1))) pe_int) pe_int) pe_int))
 (pss_one (ps_ret (pe_op op_mod (pe_op op_mulW (pv 2) (pe_op (op_addK K rfl) (pe_op op_fdiv (pv 2) pe_int) pe_int)) pe_int)))), ?_⟩
   obtain ⟨hk, q⟩ := h
   walk_at "wps"
   have h1 := mod31 ((c + 7919 * k + 1) * 48271)
   generalize (c + 7919 * k + 1) * 48271 % 2147483647 = a at *
   have h2 := mod31 (a * (a / 1009 + 69621))
   exact ⟨mulW_l ⟨by omega, by omega⟩, q _ h2.1 (by omega)⟩
  ·exact h.elim
theorem ok__law_any_text (T : Txt K mg C_Terms C_RoadError C_BadTerms C_NotWide)  : FnAt P w K mg base (CX1 P w) "_law_any_text" 2 ["_law_cell", "_law_k", "_law_size"] sp__law_any_text := by
 refine T.d__law_any_text.fn sc__law_any_text bd__law_any_text (fun vs H Q E h => ?_) fun f cdv A outer s H vs Q E HR h => ?_
 ·unfold sp__law_any_text at h; split at h <;> first | rfl | exact h.elim
 ·unfold sp__law_any_text at h
  split at h
  ·rename_i c k n
   refine ⟨_, (pss_cons (ps_setQ (i := 3) sc__law_any_text.nd rfl (Or.inl rfl) pe_str)
 (pss_cons (ps_setQ (i := 3) sc__law_any_text.nd rfl (Or.inl rfl) (pe_op (op_addK K rfl) (pv 3) pe_str))
 (pss_hold (pss_cons (ps_setQ (i := 4) sc__law_any_text.nd rfl (Or.inl rfl) pe_str)
 (pss_hold (pss_cons (ps_for PassesOwn.never rfl (pj_range1 rfl T.b_range (pa_q (pv 2) pa_nil)) (pg_name (i := 5) sc__law_any_text.nd rfl (Or.inl rfl)) (pss_cons (ps_setQ (i := 6) sc__law_any_text.nd rfl (Or.inl rfl) (pe_op op_fdivW (pe_fnQ (ok__law_digit T) HR (by decide) rfl (pa_q (pv 0) (pa_q (pe_op (op_addK K rfl) (pv 1) (pe_op op_fdiv (pv 5) pe_int)) pa_nil))) (pe_ix (ix_B K rfl) (pe_tup (pa_q pe_int (pa_q pe_int (pa_q pe_int (pa_q pe_int pa_nil))))) (pe_op op_mod (pv 5) pe_int) (fun _ _ => rfl))))
 (pss_hold (pss_one (ps_setQ (i := 4) sc__law_any_text.nd rfl (Or.inl rfl) (pe_op (op_addK K rfl) (pv 4) (pe_ix (ix_B K rfl) (pv 3) (pe_op op_mod (pv 6) pe_int) (fun _ _ => rfl))))))))
 (pss_hold (pss_one (ps_ret (pv 4)))))))))), ?_⟩
   obtain ⟨hk, q⟩ := h
   generalize h_u1 : tHold _ = u1
   walk_at "wps"
   refine ⟨by rw [sizeLine_eq]; decide, ?_⟩
   have sl : (Str.ofString " !\"#$&'()*+,-./0123456789:;<=>?@ABCDEFGHIJKLMNOPQRSTUVWXYZ[\\]^_`" ++ Str.ofString "abcdefghijklmnopqrstuvwxyz{|}~").cps.toList.length = 94 := by decide +kernel
   generalize Str.ofString " !\"#$&'()*+,-./0123456789:;<=>?@ABCDEFGHIJKLMNOPQRSTUVWXYZ[\\]^_`" ++ Str.ofString "abcdefghijklmnopqrstuvwxyz{|}~" = sm at *
   rw [← h_u1, tHold]
   generalize h_u2 : tHold _ = u2
   walk_at "wps"
   rw [← h_u2, tHold]
   generalize h_u3 : tHold _ = u3
   generalize h_u4 : tHold _ = u4
   walk_at "wps"
   refine ⟨by omega, ?_⟩
   refine fo_rng (lo := 0) (n := n.toNat) (fun i σ H' => Same H H' ∧ ∃ z v5 v6, (z.length : Int) = i ∧ σ = [some (.int c), some (.int k), some (.int n), some (.str sm), some (.str z), v5, v6]) ⟨Same.refl _, _, none, none, rfl, rfl⟩ (fun i σ H' hi hp => ?_) (fun σ H' hp => ?_)
   ·obtain ⟨sm1, z, v5, v6, hz, rfl⟩ := hp
    walk_at "wps"
    refine ⟨by omega, fun v hv0 hv1 p hp => ?_⟩
    obtain ⟨d, ed, hd⟩ : ∃ d : Int, atI [V.int 1, V.int 94, V.int 8836, V.int 830584] ((0 + (i : Int)) % 4) = some (.int d) ∧ 0 < d ∧ d < 1000000 := by
     have h4 : (0 + (i : Int)) % 4 = 0 ∨ (0 + (i : Int)) % 4 = 1 ∨ (0 + (i : Int)) % 4 = 2 ∨ (0 + (i : Int)) % 4 = 3 := by omega
     rcases h4 with e | e | e | e <;> rw [e]
     ·exact ⟨_, atI_0, by decide⟩
     ·exact ⟨_, atI_1, by decide⟩
     ·exact ⟨_, atI_2, by decide⟩
     ·exact ⟨_, atI_3, by decide⟩
    refine ⟨_, ed, ?_⟩
    have sm2 : Same H (upd H' p (.tup [V.int 1, V.int 94, V.int 8836, V.int 830584])) := fun b o e => upd_old (sm1 b o e) hp
    generalize upd H' p (.tup [V.int 1, V.int 94, V.int 8836, V.int 830584]) = H2 at *
    walk_at "wps"
    refine ⟨divW_s hd.1 (by omega), ?_⟩
    rw [← h_u3, tHold]
    walk_at "wps"
    obtain ⟨ch, hch⟩ : ∃ ch, atI sm.cps.toList (v / d % 94) = some ch := atI_ex (by omega) (by rw [sl]; omega)
    rw [rIxA_str]
    have szl : sm.length = 94 := by rw [← sl]; rfl
    refine ⟨ch, by rw [szl, sizeLine_eq]; decide, hch, ?_⟩
    walk_at "wps"
    have l1 : (⟨#[ch]⟩ : Str).length = 1 := rfl
    refine ⟨by rw [l1, sizeLine_eq]; omega, sm2, _, _, _, ?_, rfl⟩
    have e3 : (z ++ (⟨#[ch]⟩ : Str)).length = z.length + 1 := by
     show (z.cps ++ #[ch]).size = _
     rw [Array.size_append]
     rfl
    omega
   ·obtain ⟨sm1, z, v5, v6, hz, rfl⟩ := hp
    rw [← h_u4, tHold]
    walk_at "wps"
    exact q z H' sm1 (by omega)
  ·exact h.elim
theorem ok__law_any_deeds (T : Txt K mg C_Terms C_RoadError C_BadTerms C_NotWide)  : FnAt P w K mg base (CX1 P w) "_law_any_deeds" 2 ["_law_cell", "_law_lag", "_law_many"] sp__law_any_deeds := by
 refine T.d__law_any_deeds.fn sc__law_any_deeds bd__law_any_deeds (fun vs H Q E h => ?_) fun f cdv A outer s H vs Q E HR h => ?_
 ·unfold sp__law_any_deeds at h; split at h <;> first | rfl | exact h.elim
 ·unfold sp__law_any_deeds at h
  split at h
  ·rename_i c lag n
   refine ⟨_, (pss_cons (ps_setQ (i := 3) sc__law_any_deeds.nd rfl (Or.inl rfl) (pe_lst pa_nil))
 (pss_hold (pss_cons (ps_for PassesOwn.never rfl (pj_range1 rfl T.b_range (pa_q (pv 2) pa_nil)) (pg_name (i := 4) sc__law_any_deeds.nd rfl (Or.inl rfl)) (pss_cons (ps_setQ (i := 5) sc__law_any_deeds.nd rfl (Or.inl rfl) (pe_lst pa_nil))
 (pss_hold (pss_cons (ps_for PassesOwn.never rfl (pj_range1 rfl T.b_range (pa_q (pe_op op_mod (pe_fnQ (ok__law_digit T) HR (by decide) rfl (pa_q (pv 0) (pa_q (pe_op (op_addK K rfl) (pe_op op_mul pe_int (pv 4)) pe_int) pa_nil))) pe_int) pa_nil)) (pg_name (i := 6) sc__law_any_deeds.nd rfl (Or.inl rfl)) (pss_cons (ps_setQ (i := 7) sc__law_any_deeds.nd rfl (Or.inl rfl) (pe_fnQ (ok__law_digit T) HR (by decide) rfl (pa_q (pv 0) (pa_q (pe_op (op_addK K rfl) (pe_op (op_addK K rfl) (pe_op op_mul pe_int (pv 4)) pe_int) (pv 6)) pa_nil))))
 (pss_one (ps_exprQ (pe_appendK K rfl (pv 5) (pe_tup (pa_q (pe_op (op_addK K rfl) pe_int (pe_op op_mod (pv 7) (pv 1))) (pa_q (pe_op op_mod (pe_op op_fdiv (pv 7) pe_int) pe_int) (pa_q (pe_op op_mod (pe_op op_fdiv (pv 7) pe_int) pe_int) pa_nil)))))))))
 (pss_hold (pss_one (ps_exprQ (pe_appendK K rfl (pv 3) (pv 5)))))))))
 (pss_hold (pss_one (ps_ret (pv 3))))))), ?_⟩
   obtain ⟨hb, q⟩ := h
   generalize h_u1 : tHold _ = u1
   walk_at "wps"
   intro p hp
   have sm1 := same_upd (o := .lst []) hp
   have l1 := upd_same (H := H) (a := p) (o := .lst [])
   generalize upd H p (.lst []) = H1 at *
   rw [← h_u1, tHold]
   generalize h_u2 : tHold _ = u2
   generalize h_u3 : tHold _ = u3
   walk_at "wps"
   refine ⟨by omega, ?_⟩
   refine fo_rng (lo := 0) (n := n.toNat) (fun i σ H' => ∃ xs dss v4 v5 v6 v7, Same H H' ∧ H' p = some (.lst (xs.map V.ref)) ∧ Paired (fun x ds => (x ≠ p ∧ H x = none) ∧ DeedT H' x ds) xs dss ∧ dss.length = i ∧ σ = [some (.int c), some (.int lag), some (.int n), some (.ref p), v4, v5, v6, v7]) ⟨[], [], none, none, none, none, sm1, l1, .nil, rfl, rfl⟩ (fun i σ H2 hi hh => ?_) (fun σ H2 hh => ?_)
   ·obtain ⟨xs, dss, v4, v5, v6, v7, sm2, l2, pr2, len2, rfl⟩ := hh
    walk_at "wps"
    intro pd hpd
    have npd : p ≠ pd := ne_of_none l2 hpd
    have sm3 := same_upd (o := .lst []) hpd
    have l3 := upd_same (H := H2) (a := pd) (o := .lst [])
    have D3 : DeedT (upd H2 pd (.lst [])) pd [] := ⟨[], l3, .nil, Nat.zero_le _⟩
    generalize upd H2 pd (.lst []) = H3 at *
    rw [← h_u2, tHold]
    generalize h_u4 : tHold _ = u4
    walk_at "wps"
    refine ⟨by omega, fun d hd0 hd1 => ⟨by omega, ?_⟩⟩
    refine gen_ends fun DD eDD => ?_
    refine fo_rng (lo := 0) (n := (d % 4).toNat) (fun j σ H' => ∃ ds v6 v7, Same H2 H' ∧ DeedT H' pd ds ∧ ds.length = j ∧ σ = [some (.int c), some (.int lag), some (.int n), some (.ref p), some (.int (0 + (i : Int))), some (.ref pd), v6, v7]) ⟨[], v6, v7, sm3, D3, rfl, rfl⟩ (fun j σ H4 hj hh => ?_) (fun σ H4 hh => ?_)
    ·obtain ⟨ds, w6, w7, sm4, D4, len4, rfl⟩ := hh
     have D4' := D4
     obtain ⟨cs, c1, c2, c3⟩ := D4
     walk_at "wps"
     refine ⟨by omega, fun e he0 he1 => ⟨tyV_list (SqL.of c1), by omega, fun pn hpn => ?_⟩⟩
     have c1' := upd_old (o := .tup [V.int (1 + e % lag), V.int (e / 32 % 67), V.int (e / 4096 % 256)]) c1 hpn
     refine ⟨_, c1', ?_, ?_⟩
     ·rw [List.length_map, paired_len c2, sizeLine_eq]; omega
     ·refine ⟨ds ++ [(1 + e % lag, e / 32 % 67, e / 4096 % 256)], _, _, fun b o q => ?_, D4'.snoc (d := (1 + e % lag, e / 32 % 67, e / 4096 % 256)) hpn c1 (by omega), by rw [List.length_append, List.length_singleton]; omega, rfl⟩
      rw [upd_ne (ne_of_none q hpd)]
      exact upd_old (sm4 b o q) hpn
    ·obtain ⟨ds, w6, w7, sm4, D4, len4, rfl⟩ := hh
     rw [eDD]
     have l4 := sm4 _ _ l2
     rw [← h_u4, tHold]
     exists l4
     have xl := paired_len pr2
     refine ⟨tyV_list (SqL.of l4), by rw [List.length_map, sizeLine_eq]; omega, xs ++ [pd], dss ++ [ds], _, _, _, _, fun b o q => ?_, by simp, paired_snoc (paired_imp pr2 fun x ds h => ⟨h.1, (h.2.same sm4).put h.1.1 l4⟩) ⟨⟨npd.symm, sm2.free hpd⟩, D4.put npd.symm l4⟩, by rw [List.length_append, List.length_singleton]; omega, rfl⟩
     rw [upd_ne (ne_of_none q hp)]
     exact sm4 _ _ (sm2 b o q)
   ·obtain ⟨xs, dss, v4, v5, v6, v7, sm2, l2, pr2, len2, rfl⟩ := hh
    rw [← h_u3, tHold]
    walk_at "wps"
    exact q p dss H2 sm2 ⟨hp, xs, l2, paired_imp pr2 fun x ds h => ⟨h.1.2, h.2⟩, by omega⟩ (by omega)
  ·exact h.elim
theorem ok__law_any_measures (T : Txt K mg C_Terms C_RoadError C_BadTerms C_NotWide)  : FnAt P w K mg base (CX1 P w) "_law_any_measures" 2 ["_law_cell"] sp__law_any_measures := by
 refine T.d__law_any_measures.fn sc__law_any_measures bd__law_any_measures (fun vs H Q E h => ?_) fun f cdv A outer s H vs Q E HR h => ?_
 ·unfold sp__law_any_measures at h; split at h <;> first | rfl | exact h.elim
 ·unfold sp__law_any_measures at h
  split at h
  ·rename_i c
   refine ⟨_, (pss_cons (ps_setQ (i := 1) sc__law_any_measures.nd rfl (Or.inl rfl) (pe_fnQ (ok__law_digit T) HR (by decide) rfl (pa_q (pv 0) (pa_q pe_int pa_nil))))
 (pss_hold (pss_cons (ps_setQ (i := 2) sc__law_any_measures.nd rfl (Or.inl rfl) (pe_tup (pa_q (pe_op (op_addK K rfl) pe_int (pe_op op_mod (pv 1) pe_int)) (pa_q (pe_op (op_addK K rfl) pe_int (pe_op op_mod (pe_op op_fdiv (pv 1) pe_int) pe_int)) pa_nil))))
 (pss_cons (ps_setQ (i := 3) sc__law_any_measures.nd rfl (Or.inl rfl) (pe_op (op_addK K rfl) pe_int (pe_op op_mod (pe_op op_fdiv (pv 1) pe_int) pe_int)))
 (pss_cons (ps_setQ (i := 4) sc__law_any_measures.nd rfl (Or.inl rfl) (pe_op op_sub (pe_op (op_addK K rfl) (pe_op op_mul pe_int (pe_callBQ (call_maxT K rfl rfl) (by rfl) T.b_max bt_max (pa_q (pv 2) pa_nil))) (pv 3)) pe_int))
 (pss_hold (pss_mid (ps_if (pt_cmpR (op_eqXK K rfl HR.units) (pe_callBQ (call_maxT K rfl rfl) (by rfl) T.b_max bt_max (pa_q (pv 2) pa_nil)) pe_int (nomark _)) (pss_one (ps_setQ (i := 4) sc__law_any_measures.nd rfl (Or.inl rfl) (pe_op (op_addK K rfl) pe_int (pe_op op_fdiv (pv 3) pe_int)))) pss_nil)
 (pss_hold (pss_cons (ps_setQ (i := 5) sc__law_any_measures.nd rfl (Or.inl rfl) (pe_op (op_addK K rfl) pe_int (pe_op op_mod (pe_op op_fdiv (pv 1) pe_int) pe_int)))
 (pss_cons (ps_setQ (i := 6) sc__law_any_measures.nd rfl (Or.inl rfl) (pe_op (op_addK K rfl) pe_int (pe_op op_mod (pe_fnQ (ok__law_digit T) HR (by decide) rfl (pa_q (pv 0) (pa_q pe_int pa_nil))) (pe_op op_sub (pv 5) pe_int))))
 (pss_one (ps_ret (pe_tup (pa_q (pe_op (op_addK K rfl) (pv 4) (pe_op op_mod (pe_fnQ (ok__law_digit T) HR (by decide) rfl (pa_q (pv 0) (pa_q pe_int pa_nil))) (pe_op op_sub pe_int (pv 4)))) (pa_q (pv 2) (pa_q (pv 3) (pa_q (pv 6) (pa_q (pv 5) pa_nil)))))))))))))))))), ?_⟩
   generalize h_u1 : tHold _ = u1
   walk_at "wps"
   intro v h0 h1
   rw [← h_u1, tHold]
   generalize h_u2 : tHold _ = u2
   walk_at "wps"
   intro p hp
   have sm1 := same_upd (o := .tup [V.int (1 + v % 16), V.int (1 + v / 16 % 16)]) hp
   have l1 := upd_same (H := H) (a := p) (o := .tup [V.int (1 + v % 16), V.int (1 + v / 16 % 16)])
   generalize upd H p (.tup [V.int (1 + v % 16), V.int (1 + v / 16 % 16)]) = H1 at *
   have ho : 1 ≤ 1 + v % 16 ∧ 1 + v % 16 ≤ 16 := by omega
   have ht : 1 ≤ 1 + v / 16 % 16 ∧ 1 + v / 16 % 16 ≤ 16 := by omega
   have hgg : 1 ≤ 1 + v / 256 % 32 ∧ 1 + v / 256 % 32 ≤ 32 := by omega
   generalize 1 + v % 16 = o at *
   generalize 1 + v / 16 % 16 = t at *
   generalize 1 + v / 256 % 32 = g at *
   refine ⟨[o, t], SqT.of l1, by simp, fun M hM hle => ?_⟩
   have hm1 := hle o (by simp)
   have hm2 := hle t (by simp)
   simp only [List.mem_cons, List.not_mem_nil, or_false] at hM
   rw [← h_u2, tHold]
   generalize h_u3 : tHold _ = u3
   refine ⟨fun σ' H' => H' = H1 ∧ ∃ L : Int, L = leastF o t g ∧ σ' = [some (.int c), some (.int v), some (.ref p), some (.int g), some (.int L), none, none], ?_, ?_⟩
   ·walk_at "wps"
    refine ⟨[o, t], SqT.of l1, by simp, fun M2 hM2 hle2 => ?_⟩
    have hm3 := hle2 o (by simp)
    have hm4 := hle2 t (by simp)
    simp only [List.mem_cons, List.not_mem_nil, or_false] at hM2
    by_cases c1 : M2 = 1
    ·rw [if_pos c1]
     refine ⟨_, ?_, rfl⟩
     unfold leastF needF
     (repeat' split) <;> omega
    ·rw [if_neg c1]
     refine ⟨_, ?_, rfl⟩
     unfold leastF needF
     (repeat' split) <;> omega
   rintro σ' H' ⟨rfl, L, eL, rfl⟩
   have hL : 2 ≤ L ∧ L ≤ 63 := by
    rw [eL]
    unfold leastF needF
    (repeat' split) <;> omega
   rw [← h_u3, tHold]
   walk_at "wps"
   have hl : 2 ≤ 2 + v / 8192 % 63 ∧ 2 + v / 8192 % 63 ≤ 64 := by omega
   generalize 2 + v / 8192 % 63 = l at *
   intro x hx0 hx1
   refine ⟨by omega, fun y hy0 hy1 => ⟨by omega, fun p1 hp1 => ?_⟩⟩
   have e1 := Int.emod_nonneg x (show l - 1 ≠ 0 by omega)
   have e2 := Int.emod_lt_of_pos x (show 0 < l - 1 by omega)
   have e3 := Int.emod_nonneg y (show 65 - L ≠ 0 by omega)
   have e4 := Int.emod_lt_of_pos y (show 0 < 65 - L by omega)
   refine h p1 p (L + y % (65 - L)) o t g (2 + x % (l - 1)) l _ (fun b o e => upd_old (sm1 b o e) hp1) upd_same (upd_old l1 hp1) ⟨by omega, ⟨ho, ht⟩, hgg, hl, by omega⟩ (by rw [← eL]; omega)
  ·exact h.elim
theorem ok__law_any_roads (T : Txt K mg C_Terms C_RoadError C_BadTerms C_NotWide)  : FnAt P w K mg base (CX1 P w) "_law_any_roads" 3 ["_law_script", "_law_lag"] (sp__law_any_roads K) := by
 refine T.d__law_any_roads.fn sc__law_any_roads bd__law_any_roads (fun vs H Q E h => ?_) fun f cdv A outer s H vs Q E HR h => ?_
 ·unfold sp__law_any_roads at h; split at h <;> first | rfl | exact h.elim
 ·unfold sp__law_any_roads at h
  split at h
  ·rename_i a lag
   refine ⟨_, (pss_cons (ps_setQ (i := 2) sc__law_any_roads.nd rfl (Or.inl rfl) (pe_lst pa_nil))
 (pss_hold (pss_cons (ps_for PassesOwn.never rfl (pi_seqK K rfl (pe_tup (pa_q (pe_fnQ (ok__law_cell_at T) HR (by decide) rfl (pa_q (pv 0) (pa_q pe_int pa_nil))) (pa_q (pe_fnQ (ok__law_cell_at T) HR (by decide) rfl (pa_q (pv 0) (pa_q pe_int pa_nil))) pa_nil)))) (pg_name (i := 3) sc__law_any_roads.nd rfl (Or.inl rfl)) (pss_one (ps_exprQ (pe_appendK K rfl (pv 2) (pe_fnQ (ok__law_any_deeds T) HR (by decide) rfl (pa_q (pv 3) (pa_q (pv 1) (pa_q (pe_op op_mod (pe_fnQ (ok__law_digit T) HR (by decide) rfl (pa_q (pv 3) (pa_q pe_int pa_nil))) pe_int) pa_nil))))))))
 (pss_hold (pss_one (ps_ret (pe_tup (pa_q (pe_ix (ix_B K rfl) (pv 2) pe_int (fun _ _ => rfl)) (pa_q (pe_ix (ix_B K rfl) (pv 2) pe_int (fun _ _ => rfl)) pa_nil))))))))), ?_⟩
   obtain ⟨hb, ns, hS, q⟩ := h
   generalize h_u1 : tHold _ = u1
   walk_at "wps"
   intro p hp
   have sm1 := same_upd (o := .lst []) hp
   have l1 := upd_same (H := H) (a := p) (o := .lst [])
   generalize upd H p (.lst []) = H1 at *
   rw [← h_u1, tHold]
   generalize h_u2 : tHold _ = u2
   have hS1 := same_lst sm1 hS
   walk_at "wps"
   refine ⟨ns, hS1, fun n1 => ⟨ns, hS1, fun n2 pt hpt => ?_⟩⟩
   have l2 := upd_old (o := .tup [V.int n1, V.int n2]) l1 hpt
   have t2 := upd_same (H := H1) (a := pt) (o := .tup [V.int n1, V.int n2])
   have sm2 : Same H (upd H1 pt (.tup [V.int n1, V.int n2])) := fun b o e => upd_old (sm1 b o e) hpt
   generalize upd H1 pt (.tup [V.int n1, V.int n2]) = H2 at *
   refine fo_tup (xs := [V.int n1, V.int n2]) (SqT.of t2) (fun i σ H' => Same H H' ∧ H' pt = some (.tup [V.int n1, V.int n2]) ∧ (∃ v3, σ = [some (.ref a), some (.int lag), some (.ref p), v3]) ∧ ∃ xs dss, H' p = some (.lst (xs.map V.ref)) ∧ Paired (fun x ds => RowP p H' x ds ∧ ds.length ≤ 60) xs dss ∧ xs.length = i) ⟨sm2, t2, ⟨_, rfl⟩, [], [], l2, .nil, rfl⟩ (fun i σ H' _ hh => SqT.of hh.2.1) (fun i y σ H3 hy hh => ?_) (fun σ H3 hh => ?_)
   ·obtain ⟨sm3, t3, ⟨v3, rfl⟩, xs, dss, l3, pr3, len3⟩ := hh
    have hi : i < 2 := (List.getElem?_eq_some_iff.mp hy).1
    obtain ⟨cc, rfl⟩ : ∃ cc, y = V.int cc := by
     have hm : y ∈ [V.int n1, V.int n2] := List.mem_of_getElem? hy
     simp at hm
     rcases hm with rfl | rfl <;> exact ⟨_, rfl⟩
    walk_at "wps"
    refine ⟨tyV_list (SqL.of l3), fun d hd0 hd1 => ⟨⟨hb.1, hb.2, by omega, by omega⟩, fun pd dd H4 sm4 hR hdl => ?_⟩⟩
    have l4 := sm4 _ _ l3
    have t4 := sm4 _ _ t3
    refine ⟨_, l4, by rw [List.length_map, len3, sizeLine_eq]; omega, fun b o e => ?_, ?_, ⟨_, rfl⟩, xs ++ [pd], dss ++ [dd], by simp, paired_snoc (paired_imp pr3 fun x ds h => ⟨(h.1.same sm4).put l4, h.2⟩) ⟨(hR.apart l3).put l4, hdl⟩, by rw [List.length_append, List.length_singleton, len3]⟩
    ·rw [upd_ne (ne_of_none e hp)]
     exact sm4 _ _ (sm3 b o e)
    ·rw [upd_ne (ne_of t4 l4 (by simp))]
     exact t4
   obtain ⟨sm3, t3, ⟨v3, rfl⟩, xs, dss, l3, pr3, len3⟩ := hh
   obtain ⟨xa, xb, rfl⟩ : ∃ xa xb, xs = [xa, xb] := by
    match xs, len3 with
    | [xa, xb], _ => exact ⟨xa, xb, rfl⟩
   cases pr3 with
   | cons ra pr3 =>
    cases pr3 with
    | cons rb pr3 =>
     rw [← h_u2, tHold]
     exists l3
     intro pq hpq
     have smq := same_upd (o := .tup [V.ref xa, V.ref xb]) hpq
     exact q pq xa xb _ _ _ (fun b o e => smq _ _ (sm3 b o e)) upd_same (ra.1.row.same smq) (rb.1.row.same smq) ra.2 rb.2
  ·exact h.elim
theorem ok__law_wish (T : Txt K mg C_Terms C_RoadError C_BadTerms C_NotWide)  : FnAt P w K mg base (CX1 P w) "_law_wish" 2 ["_law_cell"] sp__law_wish := by
 refine T.d__law_wish.fn sc__law_wish bd__law_wish (fun vs H Q E h => ?_) fun f cdv A outer s H vs Q E HR h => ?_
 ·unfold sp__law_wish at h; split at h <;> first | rfl | exact h.elim
 ·unfold sp__law_wish at h
  split at h
  ·rename_i c
   refine ⟨_, (pss_cons (ps_setQ (i := 1) sc__law_wish.nd rfl (Or.inl rfl) (pe_fnQ (ok__law_mixed T) HR (by decide) rfl (pa_q (pv 0) (pa_q pe_int pa_nil))))
 (pss_hold (pss_cons (ps_setQ (i := 2) sc__law_wish.nd rfl (Or.inl rfl) (pe_op op_mod (pe_op op_fdiv (pv 1) pe_int) pe_int))
 (pss_cons (ps_setQ (i := 3) sc__law_wish.nd rfl (Or.inl rfl) (pe_op op_mod (pe_op op_fdiv (pv 1) pe_int) pe_int))
 (pss_cons (ps_if (pt_cmpR (op_eqXK K rfl HR.units) (pv 3) pe_int (nomark _)) (pss_one (ps_ret (pe_tup (pa_q (pv 2) (pa_q (pe_op op_mod (pv 1) pe_int) (pa_q pe_str (pa_q pe_non pa_nil))))))) pss_nil)
 (pss_cons (ps_if (pt_cmpR (op_eqXK K rfl HR.units) (pv 3) pe_int (nomark _)) (pss_one (ps_ret (pe_tup (pa_q (pv 2) (pa_q (pe_op op_mod (pv 1) pe_int) (pa_q pe_str (pa_q pe_non pa_nil))))))) pss_nil)
 (pss_cons (ps_if (pt_cmpR (op_eqXK K rfl HR.units) (pv 3) pe_int (nomark _)) (pss_one (ps_ret (pe_tup (pa_q (pv 2) (pa_q (pe_op op_mod (pv 1) pe_int) (pa_q pe_str (pa_q (pe_op (op_addK K rfl) pe_int (pe_op op_mod (pe_op op_fdiv (pv 1) pe_int) pe_int)) pa_nil))))))) pss_nil)
 (pss_one (ps_ret (pe_tup (pa_q (pv 2) (pa_q (pe_op op_mod (pv 1) pe_int) (pa_q pe_str (pa_q (pe_op op_mulS (pe_ix (ix_B K rfl) pe_str (pe_op op_mod (pe_op op_fdiv (pv 1) pe_int) pe_int) (fun _ _ => rfl)) (pe_op (op_addK K rfl) pe_int (pe_op op_mod (pe_op op_fdiv (pv 1) pe_int) pe_int))) pa_nil)))))))))))))), ?_⟩
   generalize h_u1 : tHold _ = u1
   walk_at "wps"
   intro v h0 h1
   rw [← h_u1, tHold]
   walk_at "wps"
   split
   ·exact fun p hp => h p (v / 16 % 401, Str.ofString "begin", V.non) _ (same_upd hp) hp ⟨_, upd_same, fun c => absurd c (show ¬ (Str.ofString "begin" = Str.ofString "put") by decide), .inl rfl, (show 0 ≤ v / 16 % 401 by omega)⟩
   split
   ·exact fun p hp => h p (v / 16 % 401, Str.ofString "end", V.non) _ (same_upd hp) hp ⟨_, upd_same, fun c => absurd c (show ¬ (Str.ofString "end" = Str.ofString "put") by decide), .inl rfl, (show 0 ≤ v / 16 % 401 by omega)⟩
   split
   ·exact fun p hp => h p (v / 16 % 401, Str.ofString "read", V.int (1 + v / 6416 % 60)) _ (same_upd hp) hp ⟨_, upd_same, fun c => absurd c (show ¬ (Str.ofString "read" = Str.ofString "put") by decide), .inr (.inl ⟨_, rfl⟩), (show 0 ≤ v / 16 % 401 by omega)⟩
   rw [rIxA_str]
   obtain ⟨ch, hch⟩ : ∃ ch, atI (Str.ofString "ab 0").cps.toList (v / 7 % 4) = some ch := atI_ex (by omega) (by show v / 7 % 4 < 4; omega)
   refine ⟨ch, by rw [sizeLine_eq]; decide, hch, ?_⟩
   walk_at "wps"
   have l1 : (⟨#[ch]⟩ : Str).length = 1 := rfl
   refine ⟨by omega, by rw [l1]; decide, fun r hr p hp => ?_⟩
   exact h p (v / 16 % 401, Str.ofString "put", V.str r) _ (same_upd hp) hp ⟨_, upd_same, fun _ => ⟨r, rfl, by rw [hr, l1]; omega⟩, .inr (.inr ⟨r, rfl⟩), (show 0 ≤ v / 16 % 401 by omega)⟩
  ·exact h.elim
theorem ok__law_any_wishes (T : Txt K mg C_Terms C_RoadError C_BadTerms C_NotWide)  : FnAt P w K mg base (CX1 P w) "_law_any_wishes" 3 ["_law_cell", "_law_most", "_law_far", "_law_longest_text"] sp__law_any_wishes := by
 refine T.d__law_any_wishes.fn sc__law_any_wishes bd__law_any_wishes (fun vs H Q E h => ?_) fun f cdv A outer s H vs Q E HR h => ?_
 ·unfold sp__law_any_wishes at h; split at h <;> first | rfl | exact h.elim
 ·unfold sp__law_any_wishes at h
  split at h
  ·rename_i c m fa lt
   refine ⟨_, (pss_cons (ps_setQ (i := 4) sc__law_any_wishes.nd rfl (Or.inl rfl) (pe_lst pa_nil))
 (pss_hold (pss_cons (ps_for PassesOwn.never rfl (pj_range1 rfl T.b_range (pa_q (pe_op (op_addK K rfl) pe_int (pe_op op_mod (pe_fnQ (ok__law_digit T) HR (by decide) rfl (pa_q (pv 0) (pa_q pe_int pa_nil))) (pv 1))) pa_nil)) (pg_name (i := 5) sc__law_any_wishes.nd rfl (Or.inl rfl)) (pss_cons (ps_setQ (i := 6) sc__law_any_wishes.nd rfl (Or.inl rfl) (pe_fnQ (ok__law_digit T) HR (by decide) rfl (pa_q (pv 0) (pa_q (pe_op (op_addK K rfl) (pe_op op_mul pe_int (pv 5)) pe_int) pa_nil))))
 (pss_hold (pss_cons (ps_setQ (i := 7) sc__law_any_wishes.nd rfl (Or.inl rfl) (pe_op op_mod (pv 6) (pv 2)))
 (pss_cons (ps_setQ (i := 8) sc__law_any_wishes.nd rfl (Or.inl rfl) (pe_op op_mod (pe_op op_fdivW (pv 6) (pv 2)) pe_int))
 (pss_cons (ps_setQ (i := 9) sc__law_any_wishes.nd rfl (Or.inl rfl) (pe_op op_mod (pe_op op_fdiv (pe_op op_fdivW (pv 6) (pv 2)) pe_int) pe_int))
 (pss_cons (ps_setQ (i := 10) sc__law_any_wishes.nd rfl (Or.inl rfl) (pe_op (op_addK K rfl) pe_int (pe_op op_mod (pe_op op_fdiv (pe_op op_fdivW (pv 6) (pv 2)) pe_int) pe_int)))
 (pss_hold (pss_one (ps_if (pt_cmpR (op_eqXK K rfl HR.units) (pv 9) pe_int (nomark _)) (pss_one (ps_exprQ (pe_appendK K rfl (pv 4) (pe_tup (pa_q (pv 7) (pa_q (pv 8) (pa_q pe_str (pa_q pe_non pa_nil)))))))) (pss_one (ps_if (pt_cmpR (op_eqXK K rfl HR.units) (pv 9) pe_int (nomark _)) (pss_one (ps_exprQ (pe_appendK K rfl (pv 4) (pe_tup (pa_q (pv 7) (pa_q (pv 8) (pa_q pe_str (pa_q pe_non pa_nil)))))))) (pss_one (ps_if (pt_cmpR (op_eqXK K rfl HR.units) (pv 9) pe_int (nomark _)) (pss_one (ps_exprQ (pe_appendK K rfl (pv 4) (pe_tup (pa_q (pv 7) (pa_q (pv 8) (pa_q pe_str (pa_q (pv 10) pa_nil)))))))) (pss_cons (ps_setQ (i := 11) sc__law_any_wishes.nd rfl (Or.inl rfl) (pe_fnQ (ok__law_any_text T) HR (by decide) rfl (pa_q (pv 0) (pa_q (pe_op (op_addK K rfl) (pe_op op_mul pe_int (pv 5)) pe_int) (pa_q (pe_op (op_addK K rfl) pe_int (pe_op op_mod (pe_op op_sub (pv 10) pe_int) (pv 3))) pa_nil)))))
 (pss_one (ps_exprQ (pe_appendK K rfl (pv 4) (pe_tup (pa_q (pv 7) (pa_q (pv 8) (pa_q pe_str (pa_q (pv 11) pa_nil)))))))))))))))))))))))
 (pss_hold (pss_one (ps_ret (pv 4))))))), ?_⟩
   obtain ⟨hb, q⟩ := h
   generalize h_u1 : tHold _ = u1
   walk_at "wps"
   intro p hp
   have sm1 := same_upd (o := .lst []) hp
   have l1 := upd_same (H := H) (a := p) (o := .lst [])
   generalize upd H p (.lst []) = H1 at *
   rw [← h_u1, tHold]
   generalize h_u2 : tHold _ = u2
   generalize h_u3 : tHold _ = u3
   walk_at "wps"
   intro v hv0 hv1
   have e1 := Int.emod_nonneg v (show m ≠ 0 by omega)
   have e2 := Int.emod_lt_of_pos v (show 0 < m by omega)
   refine ⟨by omega, by omega, ?_⟩
   refine gen_ends fun DD eDD => ?_
   refine fo_rng (lo := 0) (n := (1 + v % m).toNat) (fun i σ H' => ∃ xs ws v5 v6 v7 v8 v9 v10 v11, Same H H' ∧ H' p = some (.lst (xs.map V.ref)) ∧ Paired (WishT H') xs ws ∧ ws.length = i ∧ σ = [some (.int c), some (.int m), some (.int fa), some (.int lt), some (.ref p), v5, v6, v7, v8, v9, v10, v11]) ⟨[], [], none, none, none, none, none, none, none, sm1, l1, .nil, rfl, rfl⟩ (fun i σ H2 hi hh => ?_) (fun σ H2 hh => ?_)
   ·obtain ⟨xs, ws, v5, v6, v7, v8, v9, v10, v11, sm2, l2, pr2, len2, rfl⟩ := hh
    have xl := paired_len pr2
    walk_at "wps"
    refine ⟨by omega, fun d hd0 hd1 => ?_⟩
    rw [← h_u2, tHold]
    generalize h_u4 : tHold _ = u4
    walk_at "wps"
    have g1 := Int.emod_nonneg d (show fa ≠ 0 by omega)
    refine ⟨by omega, divW_s (by omega) (by omega), ?_⟩
    generalize d % fa = tn at *
    generalize d / fa = dd at *
    have put : ∀ x w H3 v11', Same H2 H3 → H2 x = none → WishT H3 x w → ∃ xs' ws' v5 v6 v7 v8 v9 v10 v11, Same H (upd H3 p (.lst (xs.map V.ref ++ [V.ref x]))) ∧ some (HO.lst (xs.map V.ref ++ [V.ref x])) = some (.lst (xs'.map V.ref)) ∧ Paired (WishT (upd H3 p (.lst (xs.map V.ref ++ [V.ref x])))) xs' ws' ∧ ws'.length = i + 1 ∧ [some (V.int c), some (V.int m), some (V.int fa), some (V.int lt), some (V.ref p), some (V.int (0 + (i : Int))), some (V.int d), some (V.int tn), some (V.int (dd % 2)), some (V.int (dd / 2 % 6)), some (V.int (1 + dd / 12 % 60)), v11'] = [some (V.int c), some (V.int m), some (V.int fa), some (V.int lt), some (V.ref p), v5, v6, v7, v8, v9, v10, v11] := by
     intro x w H3 v11' sm3 hx hw
     have l3 := sm3 _ _ l2
     have kp : ∀ y w', WishT H3 y w' → WishT (upd H3 p (.lst (xs.map V.ref ++ [V.ref x]))) y w' := fun y w' h => by
      obtain ⟨sd, h1, h2⟩ := h
      exact ⟨sd, by rw [upd_ne (ne_of h1 l3 (by simp))]; exact h1, h2⟩
     refine ⟨xs ++ [x], ws ++ [w], _, _, _, _, _, _, _, fun b o e => ?_, by simp, paired_snoc (paired_imp pr2 fun y w' h => kp _ _ (h.same sm3)) (kp _ _ hw), by rw [List.length_append, List.length_singleton]; omega, rfl⟩
     rw [upd_ne (ne_of_none e hp)]
     exact sm3 _ _ (sm2 b o e)
    rw [← h_u4, tHold]
    walk_at "wps"
    refine ⟨divW_s (by omega) (by omega), divW_s (by omega) (by omega), ?_⟩
    have sz : (xs.map V.ref).length < sizeLine := by rw [List.length_map, sizeLine_eq]; omega
    have ty := tyV_list (K := K) (SqL.of l2)
    split
    ·exact ⟨ty, fun x hx => ⟨_, upd_old l2 hx, sz, put x (tn, Str.ofString "begin", V.non) _ _ (same_upd hx) hx ⟨_, upd_same, fun c => absurd c (show ¬ (Str.ofString "begin" = Str.ofString "put") by decide), .inl rfl, g1⟩⟩⟩
    split
    ·exact ⟨ty, fun x hx => ⟨_, upd_old l2 hx, sz, put x (tn, Str.ofString "end", V.non) _ _ (same_upd hx) hx ⟨_, upd_same, fun c => absurd c (show ¬ (Str.ofString "end" = Str.ofString "put") by decide), .inl rfl, g1⟩⟩⟩
    split
    ·exact ⟨ty, fun x hx => ⟨_, upd_old l2 hx, sz, put x (tn, Str.ofString "read", V.int (1 + dd / 12 % 60)) _ _ (same_upd hx) hx ⟨_, upd_same, fun c => absurd c (show ¬ (Str.ofString "read" = Str.ofString "put") by decide), .inr (.inl ⟨_, rfl⟩), g1⟩⟩⟩
    have g2 := Int.emod_nonneg (1 + dd / 12 % 60 - 1) (show lt ≠ 0 by omega)
    have g3 := Int.emod_lt_of_pos (1 + dd / 12 % 60 - 1) (show 0 < lt by omega)
    refine ⟨by omega, ⟨by omega, by omega, by omega, by omega⟩, fun z H3 sm3 hz => ⟨tyV_list (SqL.of (sm3 _ _ l2)), fun x hx => ⟨_, upd_old (sm3 _ _ l2) hx, sz, put x (tn, Str.ofString "put", V.str z) _ _ (fun b o e => upd_old (sm3 b o e) hx) (sm3.free hx) ⟨_, upd_same, fun _ => ⟨z, rfl, by omega⟩, .inr (.inr ⟨z, rfl⟩), g1⟩⟩⟩⟩
   ·obtain ⟨xs, ws, v5, v6, v7, v8, v9, v10, v11, sm2, l2, pr2, len2, rfl⟩ := hh
    rw [eDD]
    rw [← h_u3, tHold]
    walk_at "wps"
    exact q p ws H2 sm2 hp ⟨xs, l2, pr2, by omega⟩
  ·exact h.elim
theorem ok__law_deeds (T : Txt K mg C_Terms C_RoadError C_BadTerms C_NotWide)  : FnAt P w K mg base (CX1 P w) "_law_deeds" 2 ["_law_cell", "_law_lag"] sp__law_deeds := by
 refine T.d__law_deeds.fn sc__law_deeds bd__law_deeds (fun vs H Q E h => ?_) fun f cdv A outer s H vs Q E HR h => ?_
 ·unfold sp__law_deeds at h; split at h <;> first | rfl | exact h.elim
 ·unfold sp__law_deeds at h
  split at h
  ·rename_i c lag
   refine ⟨_, (QSs.h (qss_cons ⟨(ps_setQ (i := 2) sc__law_deeds.nd rfl (Or.inl rfl) (pe_fnQ (ok__law_mixed T) HR (by decide) rfl (pa_q (pv 0) (pa_q pe_int pa_nil))))⟩
 (qss_hold (qss_cons ⟨(ps_setQ (i := 3) sc__law_deeds.nd rfl (Or.inl rfl) (pe_lst pa_nil))⟩
 (qss_hold (qss_cons ⟨(ps_for PassesOwn.never rfl (pj_range1 rfl T.b_range (pa_q (pe_op op_mod (pv 2) pe_int) pa_nil)) (pg_name (i := 4) sc__law_deeds.nd rfl (Or.inl rfl)) (pss_cons (ps_setQ (i := 2) sc__law_deeds.nd rfl (Or.inl rfl) (pe_fnQ (ok__law_mixed T) HR (by decide) rfl (pa_q (pv 2) (pa_q (pv 4) pa_nil))))
 (pss_hold (pss_cons (ps_setQ (i := 5) sc__law_deeds.nd rfl (Or.inl rfl) (pe_tup (pa_q (pe_op (op_addK K rfl) pe_int (pe_op op_mod (pv 2) (pv 1))) (pa_q (pe_op op_mod (pe_op op_fdiv (pv 2) pe_int) pe_int) (pa_q pe_int pa_nil)))))
 (pss_cons (ps_setQ (i := 6) sc__law_deeds.nd rfl (Or.inl rfl) (pe_tup (pa_q (pe_op (op_addK K rfl) pe_int (pe_op op_mod (pe_op op_fdiv (pv 2) pe_int) (pv 1))) (pa_q (pe_op op_mod (pe_op op_fdiv (pv 2) pe_int) pe_int) (pa_q (pe_op (op_addK K rfl) pe_int (pe_op op_mod (pe_op op_fdiv (pv 2) pe_int) pe_int)) pa_nil)))))
 (pss_hold (pss_one (ps_if (pt_cmpR (op_eqXK K rfl HR.units) (pe_op op_mod (pv 0) pe_int) pe_int (nomark _)) (pss_one (ps_exprQ (pe_appendK K rfl (pv 3) (pe_ix (ix_B K rfl) (pe_lst (pa_q (pe_lst (pa_q (pv 6) pa_nil)) (pa_q (pe_lst pa_nil) pa_nil))) (pe_op op_mod (pe_op op_fdiv (pv 2) pe_int) pe_int) (fun _ _ => rfl))))) (pss_one (ps_exprQ (pe_appendK K rfl (pv 3) (pe_ix (ix_B K rfl) (pe_lst (pa_q (pe_lst pa_nil) (pa_q (pe_lst (pa_q (pv 5) pa_nil)) (pa_q (pe_lst (pa_q (pv 6) pa_nil)) (pa_q (pe_lst (pa_q (pv 6) (pa_q (pv 5) pa_nil))) pa_nil))))) (pe_op op_mod (pe_op op_fdiv (pv 2) pe_int) pe_int) (fun _ _ => rfl)))))))))))))⟩
 (qss_hold (qss_one ⟨(ps_ret (pv 3))⟩)))))))), ?_⟩
   obtain ⟨hb, q⟩ := h
   generalize h_u1 : tHold _ = u1
   walk_at "wps"
   intro v h0 h1
   rw [← h_u1, tHold]
   generalize h_u2 : tHold _ = u2
   walk_at "wps"
   intro p hp
   have sm1 := same_upd (o := .lst []) hp
   have l1 := upd_same (H := H) (a := p) (o := .lst [])
   generalize upd H p (.lst []) = H1 at *
   rw [← h_u2, tHold]
   generalize h_u3 : tHold _ = u3
   generalize h_u4 : tHold _ = u4
   walk_at "wps"
   refine ⟨by omega, ?_⟩
   refine gen_ends fun DD eDD => ?_
   refine fo_rng (lo := 0) (n := (v % 9).toNat) (fun i σ H' => ∃ xs dss n v4 v5 v6, Same H H' ∧ H' p = some (.lst (xs.map V.ref)) ∧ Paired (fun x ds => (x ≠ p ∧ H x = none) ∧ DeedT H' x ds) xs dss ∧ dss.length = i ∧ 0 ≤ n ∧ σ = [some (.int c), some (.int lag), some (.int n), some (.ref p), v4, v5, v6]) ⟨[], [], v, none, none, none, sm1, l1, .nil, rfl, h0, rfl⟩ (fun i σ H2 hi hh => ?_) (fun σ H2 hh => ?_)
   ·obtain ⟨xs, dss, n, v4, v5, v6, sm2, l2, pr2, len2, hn0, rfl⟩ := hh
    walk_at "wps"
    refine ⟨by omega, fun d hd0 hd1 => ?_⟩
    rw [← h_u3, tHold]
    generalize h_u5 : tHold _ = u5
    walk_at "wps"
    refine ⟨by omega, fun pw hpw => ⟨by omega, fun ps hps => ?_⟩⟩
    have smw := same_upd (o := .tup [V.int (1 + d % lag), V.int (d / 32 % 67), V.int 0]) hpw
    have fw := upd_same (H := H2) (a := pw) (o := .tup [V.int (1 + d % lag), V.int (d / 32 % 67), V.int 0])
    generalize upd H2 pw (.tup [V.int (1 + d % lag), V.int (d / 32 % 67), V.int 0]) = H3 at *
    have sm3 : Same H2 (upd H3 ps (.tup [V.int (1 + d / 64 % lag), V.int (d / 2048 % 67), V.int (1 + d / 65536 % 255)])) := fun b o e => upd_old (smw b o e) hps
    have fs := upd_same (H := H3) (a := ps) (o := .tup [V.int (1 + d / 64 % lag), V.int (d / 2048 % 67), V.int (1 + d / 65536 % 255)])
    replace fw := upd_old (o := .tup [V.int (1 + d / 64 % lag), V.int (d / 2048 % 67), V.int (1 + d / 65536 % 255)]) fw hps
    generalize upd H3 ps (.tup [V.int (1 + d / 64 % lag), V.int (d / 2048 % 67), V.int (1 + d / 65536 % 255)]) = H4 at *
    generalize 1 + d % lag = w1 at *
    generalize d / 32 % 67 = w2 at *
    generalize 1 + d / 64 % lag = s1 at *
    generalize d / 2048 % 67 = s2 at *
    generalize 1 + d / 65536 % 255 = s3 at *
    clear smw
    have l4 := sm3 _ _ l2
    have put : ∀ x ds H5, Same H4 H5 → H4 x = none → DeedT H5 x ds → ∃ xs' dss' n v4 v5 v6, Same H (upd H5 p (.lst (xs.map V.ref ++ [V.ref x]))) ∧ some (HO.lst (xs.map V.ref ++ [V.ref x])) = some (.lst (xs'.map V.ref)) ∧ Paired (fun y d => (y ≠ p ∧ H y = none) ∧ DeedT (upd H5 p (.lst (xs.map V.ref ++ [V.ref x]))) y d) xs' dss' ∧ dss'.length = i + 1 ∧ 0 ≤ n ∧ [some (V.int c), some (V.int lag), some (V.int d), some (V.ref p), some (V.int (0 + (i : Int))), some (V.ref pw), some (V.ref ps)] = [some (V.int c), some (V.int lag), some (V.int n), some (V.ref p), v4, v5, v6] := by
     intro x ds H5 sm5 hx hD
     have l5 := sm5 _ _ l4
     have nx : x ≠ p := (ne_of_none l4 hx).symm
     refine ⟨xs ++ [x], dss ++ [ds], _, _, _, _, fun b o e => ?_, by simp, paired_snoc (paired_imp pr2 fun y d h => ⟨h.1, ((h.2.same sm3).same sm5).put h.1.1 l5⟩) ⟨⟨nx, sm2.free (sm3.free hx)⟩, hD.put nx l5⟩, by rw [List.length_append, List.length_singleton]; omega, hd0, rfl⟩
     rw [upd_ne (ne_of_none e hp)]
     exact sm5 _ _ (sm3 _ _ (sm2 b o e))
    have xl := paired_len pr2
    have sz : (xs.map V.ref).length < sizeLine := by rw [List.length_map, sizeLine_eq]; omega
    have ty := tyV_list (K := K) (SqL.of l4)
    rw [← h_u5, tHold]
    walk_at "wps"
    split
    ·refine ⟨ty, fun p1 n1 p2 n2 p3 n3 => ?_⟩
     have s1' := same_upd (o := .lst [V.ref ps]) n1
     have f1 := upd_same (H := H4) (a := p1) (o := .lst [V.ref ps])
     generalize upd H4 p1 (.lst [V.ref ps]) = H5 at *
     have s2' : Same H4 (upd H5 p2 (.lst [])) := fun b o e => upd_old (s1' b o e) n2
     have f2 := upd_same (H := H5) (a := p2) (o := .lst [])
     replace f1 := upd_old (o := .lst []) f1 n2
     generalize upd H5 p2 (.lst []) = H6 at *
     have s3' : Same H4 (upd H6 p3 (.lst [V.ref p1, V.ref p2])) := fun b o e => upd_old (s2' b o e) n3
     replace f1 := upd_old (o := .lst [V.ref p1, V.ref p2]) f1 n3
     replace f2 := upd_old (o := .lst [V.ref p1, V.ref p2]) f2 n3
     generalize upd H6 p3 (.lst [V.ref p1, V.ref p2]) = H7 at *
     have h2 : d / 7 % 2 = 0 ∨ d / 7 % 2 = 1 := by omega
     rcases h2 with e | e <;> rw [e]
     ·exact ⟨_, atI_0, _, s3' _ _ l4, sz, put p1 [(s1, s2, s3)] H7 s3' n1 ⟨[ps], f1, .cons (s3' _ _ fs) .nil, by show 1 ≤ 1000; decide⟩⟩
     ·exact ⟨_, atI_1, _, s3' _ _ l4, sz, put p2 [] H7 s3' (s1'.free n2) ⟨[], f2, .nil, by show 0 ≤ 1000; decide⟩⟩
    ·refine ⟨ty, fun p1 n1 p2 n2 p3 n3 p4 n4 p5 n5 => ?_⟩
     have s1' := same_upd (o := .lst []) n1
     have f1 := upd_same (H := H4) (a := p1) (o := .lst [])
     generalize upd H4 p1 (.lst []) = H5 at *
     have s2' : Same H4 (upd H5 p2 (.lst [V.ref pw])) := fun b o e => upd_old (s1' b o e) n2
     have f2 := upd_same (H := H5) (a := p2) (o := .lst [V.ref pw])
     replace f1 := upd_old (o := .lst [V.ref pw]) f1 n2
     generalize upd H5 p2 (.lst [V.ref pw]) = H6 at *
     have s3' : Same H4 (upd H6 p3 (.lst [V.ref ps])) := fun b o e => upd_old (s2' b o e) n3
     have f3 := upd_same (H := H6) (a := p3) (o := .lst [V.ref ps])
     replace f1 := upd_old (o := .lst [V.ref ps]) f1 n3
     replace f2 := upd_old (o := .lst [V.ref ps]) f2 n3
     generalize upd H6 p3 (.lst [V.ref ps]) = H7 at *
     have s4' : Same H4 (upd H7 p4 (.lst [V.ref ps, V.ref pw])) := fun b o e => upd_old (s3' b o e) n4
     have f4 := upd_same (H := H7) (a := p4) (o := .lst [V.ref ps, V.ref pw])
     replace f1 := upd_old (o := .lst [V.ref ps, V.ref pw]) f1 n4
     replace f2 := upd_old (o := .lst [V.ref ps, V.ref pw]) f2 n4
     replace f3 := upd_old (o := .lst [V.ref ps, V.ref pw]) f3 n4
     generalize upd H7 p4 (.lst [V.ref ps, V.ref pw]) = H8 at *
     have s5' : Same H4 (upd H8 p5 (.lst [V.ref p1, V.ref p2, V.ref p3, V.ref p4])) := fun b o e => upd_old (s4' b o e) n5
     replace f1 := upd_old (o := .lst [V.ref p1, V.ref p2, V.ref p3, V.ref p4]) f1 n5
     replace f2 := upd_old (o := .lst [V.ref p1, V.ref p2, V.ref p3, V.ref p4]) f2 n5
     replace f3 := upd_old (o := .lst [V.ref p1, V.ref p2, V.ref p3, V.ref p4]) f3 n5
     replace f4 := upd_old (o := .lst [V.ref p1, V.ref p2, V.ref p3, V.ref p4]) f4 n5
     generalize upd H8 p5 (.lst [V.ref p1, V.ref p2, V.ref p3, V.ref p4]) = H9 at *
     have h2 : d / 7 % 4 = 0 ∨ d / 7 % 4 = 1 ∨ d / 7 % 4 = 2 ∨ d / 7 % 4 = 3 := by omega
     rcases h2 with e | e | e | e <;> rw [e]
     ·exact ⟨_, atI_0, _, s5' _ _ l4, sz, put p1 [] H9 s5' n1 ⟨[], f1, .nil, by show 0 ≤ 1000; decide⟩⟩
     ·exact ⟨_, atI_1, _, s5' _ _ l4, sz, put p2 [(w1, w2, 0)] H9 s5' (s1'.free n2) ⟨[pw], f2, .cons (s5' _ _ fw) .nil, by show 1 ≤ 1000; decide⟩⟩
     ·exact ⟨_, atI_2, _, s5' _ _ l4, sz, put p3 [(s1, s2, s3)] H9 s5' (s2'.free n3) ⟨[ps], f3, .cons (s5' _ _ fs) .nil, by show 1 ≤ 1000; decide⟩⟩
     ·exact ⟨_, atI_3, _, s5' _ _ l4, sz, put p4 [(s1, s2, s3), (w1, w2, 0)] H9 s5' (s3'.free n4) ⟨[ps, pw], f4, .cons (s5' _ _ fs) (.cons (s5' _ _ fw) .nil), by show 2 ≤ 1000; decide⟩⟩
   ·obtain ⟨xs, dss, n, v4, v5, v6, sm2, l2, pr2, len2, hn0, rfl⟩ := hh
    rw [eDD]
    rw [← h_u4, tHold]
    walk_at "wps"
    exact q p dss H2 sm2 ⟨hp, xs, l2, paired_imp pr2 fun x ds h => ⟨h.1.2, h.2⟩, by omega⟩ (by omega)
  ·exact h.elim
theorem gaps_ne {ws : List Bool} (h : idx ws ≠ []) : gaps ws ≠ [] := by
 obtain ⟨a, b, hx⟩ := nx_of (ws := ws) (j := 0) (List.length_pos_iff.mpr h)
 exact fun e => by have := mem_gaps hx; rw [e] at this; cases this
theorem ok__law_fair (T : Txt K mg C_Terms C_RoadError C_BadTerms C_NotWide)  : FnAt P w K mg base (CX1 P w) "_law_fair" 1 ["_law_deeds_here"] sp__law_fair := by
 refine T.d__law_fair.fn sc__law_fair bd__law_fair (fun vs H Q E h => ?_) fun f cdv A outer s H vs Q E HR h => ?_
 ·unfold sp__law_fair at h; split at h <;> first | rfl | exact h.elim
 ·unfold sp__law_fair at h
  split at h
  ·rename_i x
   refine ⟨_, (pss_cons (ps_if (pt_cmpR (op_eqXK K rfl HR.units) (pv 0) (pe_lst pa_nil) (nomark _)) (pss_one (ps_ret pe_int)) pss_nil)
 (pss_hold (pss_cons (ps_setc (i := 1) (N := (["_law_deed"] : List Str)) (nv := 1) (ix := []) rfl sc__law_fair.nd rfl rfl (cs_of (by kernel_rfl)) (pi_seqK K rfl (pv 0)) (fun _ _ _ _ _ => (pg_name (i := 0) (show ((["_law_deed"] : List Str)).Nodup by decide) rfl (Or.inl rfl))) (fun _ _ _ _ _ => pts_nil) (fun _ _ _ _ _ => (pe_cmpR (op_eqXK K rfl HR.units) (pe_callBQ (call_lenB K rfl) (by rfl) T.b_len bt_len (pa_q (pe_comp (N := (["_law_copy"] : List Str)) (nv := 1) (ix := []) rfl (cs_of (by kernel_rfl)) (pi_seqK K rfl (pv 0)) (fun _ _ _ _ _ => (pg_name (i := 0) (show ((["_law_copy"] : List Str)).Nodup by decide) rfl (Or.inl rfl))) (fun _ _ _ _ _ => (pts_one (pt_cmpR (op_eqXK K rfl HR.units) (pe_ix (ix_B K rfl) (pv 0) pe_int (fun _ _ => rfl)) pe_int (nomark _)))) (fun _ _ _ _ _ => (pv 0))) pa_nil)) pe_int (nomark _))))
 (pss_hold (pss_cons (ps_if (pt_q (pe_callBQ (call_allK K rfl rfl) (by rfl) T.b_all bt_all (pa_q (pv 1) pa_nil))) (pss_one (ps_ret pe_non)) pss_nil)
 (pss_hold (pss_cons (ps_setQ (i := 2) sc__law_fair.nd rfl (Or.inl rfl) pe_int)
 (pss_cons (ps_setQ (i := 3) sc__law_fair.nd rfl (Or.inl rfl) pe_int)
 (pss_hold (pss_cons (ps_for PassesOwn.never rfl (pj_range1 rfl T.b_range (pa_q (pe_op op_mul pe_int (pe_callBQ (call_lenB K rfl) (by rfl) T.b_len bt_len (pa_q (pv 0) pa_nil))) pa_nil)) (pg_name (i := 4) sc__law_fair.nd rfl (Or.inl rfl)) (pss_cons (ps_if (pt_q (pe_ix (ix_B K rfl) (pv 1) (pe_op op_mod (pv 4) (pe_callBQ (call_lenB K rfl) (by rfl) T.b_len bt_len (pa_q (pv 0) pa_nil))) (fun _ _ => rfl))) (pss_one (ps_setQ (i := 3) sc__law_fair.nd rfl (Or.inl rfl) (pe_op (op_addK K rfl) (pv 3) pe_int))) (pss_one (ps_setQ (i := 3) sc__law_fair.nd rfl (Or.inl rfl) pe_int)))
 (pss_hold (pss_one (ps_setQ (i := 2) sc__law_fair.nd rfl (Or.inl rfl) (pe_callBQ (call_maxA rfl) (by rfl) T.b_max bt_max (pa_q (pv 2) (pa_q (pv 3) pa_nil))))))))
 (pss_hold (pss_one (ps_ret (pe_op (op_addK K rfl) (pv 2) pe_int)))))))))))))), ?_⟩
   obtain ⟨dss, hR, hl, q⟩ := h
   generalize h_u1 : tHold _ = u1
   walk_at "wps"
   intro p hp
   have sm1 := same_upd (o := .lst []) hp
   have l1 := upd_same (H := H) (a := p) (o := .lst [])
   generalize upd H p (.lst []) = H1 at *
   have hR1 := hR.same sm1
   refine ⟨3, _, _, by decide, hR1.dn, (dn_lst (n := 0) l1 .nil).up (by decide), ?_⟩
   by_cases c0 : dss = []
   ·refine .inl ⟨by rw [c0]; rfl, _, rfl, ?_⟩
    rw [if_pos (by decide)]
    exact q _ H1 sm1 (.inl ⟨by rw [c0]; rfl, rfl⟩)
   refine .inr ⟨fun e => c0 (by injection e with e; exact List.map_eq_nil_iff.mp e), _, rfl, ?_⟩
   rw [if_neg (by decide)]
   have l0 : 0 < dss.length := List.length_pos_iff.mpr c0
   obtain ⟨xs, h1, h2, h3⟩ := hR1
   have xl := paired_len h2
   rw [← h_u1, tHold]
   generalize h_u2 : tHold _ = u2
   walk_at "wps"
   refine co_listH (xs := xs.map V.ref) (SqL.of h1) (small_ok (by rw [List.length_map]; omega)) (fun i ys σ H' => Same H1 H' ∧ ys = ((dss.take i).map (fun d => !wh d)).map V.bl ∧ ∃ v, σ = [v]) ⟨Same.refl _, rfl, _, rfl⟩ (fun i ys σ H' hh => by rw [hh.2.1, List.length_map, List.length_map, List.length_take]; exact Nat.min_le_left _ _) (fun i ys σ H' hh => SqL.of (hh.1 _ _ h1)) (fun i x ys σ H2 hx hh => ?_) (fun ys σ H2 hh => ?_)
   ·obtain ⟨sm2, rfl, v, rfl⟩ := hh
    rw [List.getElem?_map] at hx
    obtain ⟨a, ha, rfl⟩ := Option.map_eq_some_iff.mp hx
    obtain ⟨ds, hd, hD⟩ := paired_get h2 ha
    obtain ⟨cs, d1, d2, d3⟩ := hD.same sm2
    have cl := paired_len d2
    walk_at "wps"
    refine co_listH (xs := cs.map V.ref) (SqL.of d1) (small_ok (by rw [List.length_map]; omega)) (fun k ys σ H' => H' = H2 ∧ ys.length = ((ds.take k).filter (fun d => decide (d.2.2 = 0))).length ∧ ∃ v, σ = [v]) ⟨rfl, rfl, _, rfl⟩ (fun k ys σ H' hh => by rw [hh.2.1]; exact Nat.le_trans (List.length_filter_le _ _) (by rw [List.length_take]; exact Nat.min_le_left _ _)) (fun k ys σ H' hh => by rw [hh.1]; exact SqL.of d1) (fun k y ys σ H' hy hh => ?_) (fun ys σ H' hh => ?_)
    ·obtain ⟨rfl, hys, v2, rfl⟩ := hh
     rw [List.getElem?_map] at hy
     obtain ⟨b, hb, rfl⟩ := Option.map_eq_some_iff.mp hy
     obtain ⟨d, hd2, hC⟩ := paired_get d2 hb
     have hC' : H' b = some (.tup [.int d.1, .int d.2.1, .int d.2.2]) := hC
     exists hC'
     rw [List.take_add_one, hd2, List.filter_append]
     by_cases cz : d.2.2 = 0
     ·have eA : List.filter (fun d : Cp => decide (d.2.2 = 0)) (some d).toList = [d] := by simp [cz]
      rw [if_pos cz, eA]
      refine ⟨?_, _, rfl⟩
      rw [List.length_append, List.length_append, List.length_singleton, List.length_singleton, hys]
     ·have eA : List.filter (fun d : Cp => decide (d.2.2 = 0)) (some d).toList = [] := by simp [cz]
      rw [if_neg cz, eA, List.append_nil]
      exact ⟨hys, _, rfl⟩
    ·obtain ⟨rfl, hys, v2, rfl⟩ := hh
     rw [List.length_map, cl, List.take_of_length_le (Nat.le_refl _)] at hys
     have hlen : ys.length ≤ 1000 := by rw [hys]; exact Nat.le_trans (List.length_filter_le _ _) d3
     refine ⟨small_ok hlen, fun l hl => ⟨fun b o e => upd_old (sm2 b o e) hl, ?_, _, rfl⟩⟩
     have ew : decide ((ys.length : Int) = 0) = !wh ds := by
      unfold wh
      rw [hys, Bool.eq_iff_iff, decide_eq_true_eq, Bool.not_eq_true', ← Bool.not_eq_true, List.any_eq_true]
      constructor
      ·intro h ⟨d, hd3, hd4⟩
       have : d ∈ ds.filter (fun d => decide (d.2.2 = 0)) := List.mem_filter.mpr ⟨hd3, hd4⟩
       have := List.length_pos_of_mem this
       omega
      ·intro h
       have : ds.filter (fun d => decide (d.2.2 = 0)) = [] := List.filter_eq_nil_iff.mpr fun d hd3 hd4 => h ⟨d, hd3, hd4⟩
       rw [this]
       rfl
     rw [ew, List.take_add_one, hd, List.map_append, List.map_append]
     rfl
   obtain ⟨sm2, rfl, v, rfl⟩ := hh
   rw [List.take_of_length_le (by rw [List.length_map]; omega)]
   refine ⟨small_ok (by rw [List.length_map, List.length_map]; omega), fun pb hpb => ?_⟩
   have sm3 : Same H (upd H2 pb (.lst ((dss.map (fun d => !wh d)).map V.bl))) := fun b o e => upd_old (sm2 _ _ (sm1 b o e)) hpb
   have b3 := upd_same (H := H2) (a := pb) (o := .lst ((dss.map (fun d => !wh d)).map V.bl))
   have x3 := upd_old (o := .lst ((dss.map (fun d => !wh d)).map V.bl)) (sm2 _ _ h1) hpb
   generalize upd H2 pb (.lst ((dss.map (fun d => !wh d)).map V.bl)) = H3 at *
   rw [← h_u2, tHold]
   generalize h_u3 : tHold _ = u3
   walk_at "wps"
   refine ⟨dss.map (fun d => !wh d), SqL.of b3, ?_⟩
   have wl : (dss.map wh).length = dss.length := List.length_map ..
   have bad_at : ∀ k : Nat, (dss.map (fun d => !wh d))[k % dss.length]? = some (!W (dss.map wh) k) := fun k => by
    have hk := Nat.mod_lt k l0
    unfold W
    rw [wl, List.getElem?_map, List.getD_eq_getElem?_getD, List.getElem?_map, List.getElem?_eq_getElem hk]
    rfl
   by_cases ci : idx (dss.map wh) = []
   ·have hall : (dss.map (fun d => !wh d)).all id = true := by
     rw [List.all_eq_true]
     intro b hb
     obtain ⟨k, hk⟩ := List.getElem?_of_mem hb
     have hkl := (List.getElem?_eq_some_iff.mp hk).1
     rw [List.length_map] at hkl
     have h5 := bad_at k
     rw [Nat.mod_eq_of_lt hkl, hk] at h5
     cases h5
     have h6 : W (dss.map wh) k = false := none_iff (idx_nil.mp ci) k (Nat.zero_le _) (by rw [wl]; omega)
     rw [h6]
     rfl
    rw [if_pos hall]
    exact q _ H3 sm3 (.inr (.inl ⟨fun e => c0 (List.map_eq_nil_iff.mp e), ci, rfl⟩))
   have hall : (dss.map (fun d => !wh d)).all id = false := by
    cases e : (dss.map (fun d => !wh d)).all id with
    | false => rfl
    | true =>
     exfalso
     refine ci (idx_nil.mpr (none_t fun k k1 k2 => ?_))
     have hkl : k < dss.length := by rw [wl] at k2; omega
     have h5 := bad_at k
     have h6 := List.all_eq_true.mp e _ (List.mem_of_getElem? h5)
     simpa using h6
   rw [if_neg (by rw [hall]; decide)]
   rw [← h_u3, tHold]
   generalize h_u4 : tHold _ = u4
   walk_at "wps"
   rw [← h_u4, tHold]
   generalize h_u5 : tHold _ = u5
   generalize h_u6 : tHold _ = u6
   have xll : ((xs.map V.ref).length : Int) = dss.length := by rw [List.length_map, xl]
   exists x3, xll
   refine ⟨by omega, ?_⟩
   refine gen_ends fun DD eDD => ?_
   refine fo_rng (lo := 0) (n := (2 * (dss.length : Int)).toNat) (fun k σ H' => H' = H3 ∧ ∃ v4, σ = [some (.ref x), some (.ref pb), some (.int (lgF (dss.map wh) k : Nat)), some (.int (rwF (dss.map wh) k : Nat)), v4]) ⟨rfl, none, rfl⟩ (fun k σ H' hk hh => ?_) (fun σ H' hh => ?_)
   ·obtain ⟨rfl, v4, rfl⟩ := hh
    exists x3, xll, b3
    have e1 : (0 + (k : Int)) % (dss.length : Int) = ((k % dss.length : Nat) : Int) := by rw [Int.zero_add]; exact (Int.natCast_emod ..).symm
    refine ⟨by omega, .bl (!W (dss.map wh) k), ?_, ?_⟩
    ·rw [e1]
     refine atI_n ?_
     rw [List.getElem?_map, bad_at k]
     rfl
    refine ⟨_, rfl, ?_⟩
    cases ew : W (dss.map wh) k with
    | false =>
     rw [if_pos (by decide)]
     rw [← h_u5, tHold]
     walk_at "wps"
     have e3 : rwF (dss.map wh) (k + 1) = rwF (dss.map wh) k + 1 := by show (if W (dss.map wh) k then 0 else rwF (dss.map wh) k + 1) = _; rw [ew]; rfl
     have e4 : lgF (dss.map wh) (k + 1) = if lgF (dss.map wh) k < rwF (dss.map wh) (k + 1) then rwF (dss.map wh) (k + 1) else lgF (dss.map wh) k := rfl
     refine ⟨some (.int (0 + (k : Int))), ?_⟩
     rw [e4, e3]
     by_cases cl : lgF (dss.map wh) k < rwF (dss.map wh) k + 1
     ·rw [if_pos cl, if_pos (show ((lgF (dss.map wh) k : Nat) : Int) < (rwF (dss.map wh) k : Nat) + 1 by omega)]
      rfl
     ·rw [if_neg cl, if_neg (show ¬ ((lgF (dss.map wh) k : Nat) : Int) < (rwF (dss.map wh) k : Nat) + 1 by omega)]
      rfl
    | true =>
     rw [if_neg (by decide)]
     rw [← h_u5, tHold]
     walk_at "wps"
     have e3 : rwF (dss.map wh) (k + 1) = 0 := by show (if W (dss.map wh) k then 0 else rwF (dss.map wh) k + 1) = _; rw [ew]; rfl
     have e4 : lgF (dss.map wh) (k + 1) = if lgF (dss.map wh) k < rwF (dss.map wh) (k + 1) then rwF (dss.map wh) (k + 1) else lgF (dss.map wh) k := rfl
     refine ⟨some (.int (0 + (k : Int))), ?_⟩
     rw [e4, e3, if_neg (by omega), if_neg (by omega)]
     rfl
   ·obtain ⟨rfl, v4, rfl⟩ := hh
    rw [eDD]
    rw [← h_u6, tHold]
    walk_at "wps"
    obtain ⟨M, hM, hle⟩ := ex_max (gaps_ne ci)
    have e2 := lg_fair hM hle
    rw [wl] at e2
    rw [show (2 * (dss.length : Int)).toNat = 2 * dss.length by omega, e2]
    exact q _ H' sm3 (.inr (.inr ⟨ci, M, rfl, hM, hle⟩))
  ·exact h.elim
theorem copy_row {H : Hp} {a : Addr} {dss : List (List Cp)} {R : List V → Hp → Prop} (h : RowT H a dss) (hl : dss.length ≤ 60) (q : ∀ xs H', Same H H' → Paired (DeedT H') xs dss → R (xs.map V.ref) H') : seqR K (.ref a) H fun J H2 => compR J (gName 0) tYes (tCB (rListA K) (tCons (tVar 0) tNil)) [none] H2 R := by
 obtain ⟨xs, h1, h2, h3⟩ := h
 have xl := paired_len h2
 refine co_listH (xs := xs.map V.ref) (SqL.of h1) (small_ok (by rw [List.length_map]; omega)) (fun i ys σ H' => Same H H' ∧ (∃ zs, ys = zs.map V.ref ∧ Paired (DeedT H') zs (dss.take i)) ∧ ∃ v, σ = [v]) ⟨Same.refl _, ⟨[], rfl, .nil⟩, _, rfl⟩ (fun i ys σ H' hh => by
  obtain ⟨_, ⟨zs, rfl, hz⟩, _⟩ := hh
  rw [List.length_map, paired_len hz, List.length_take]
  exact Nat.min_le_left _ _) (fun i ys σ H' hh => SqL.of (hh.1 _ _ h1)) (fun i x ys σ H2 hx hh => ?_) (fun ys σ H2 hh => ?_)
 ·obtain ⟨sm, ⟨zs, rfl, hz⟩, v, rfl⟩ := hh
  rw [List.getElem?_map] at hx
  obtain ⟨b, hb, rfl⟩ := Option.map_eq_some_iff.mp hx
  obtain ⟨ds, hd, hD⟩ := paired_get h2 hb
  obtain ⟨cs, d1, d2, d3⟩ := hD.same sm
  walk_at "wps"
  refine ⟨_, .inl (SqL.of d1), fun l hl => ⟨fun b o e => upd_old (sm b o e) hl, ⟨zs ++ [l], by simp, ?_⟩, _, rfl⟩⟩
  have sl := same_upd (o := .lst (cs.map V.ref)) hl
  rw [List.take_add_one, hd]
  exact paired_snoc (paired_imp hz fun x d h => h.same sl) ⟨cs, upd_same, paired_imp d2 fun c d h => sl _ _ h, d3⟩
 ·obtain ⟨sm, ⟨zs, rfl, hz⟩, v, rfl⟩ := hh
  rw [List.length_map, xl, List.take_of_length_le (Nat.le_refl _)] at hz
  exact q zs H2 sm hz
theorem FairR.uniq {ws : List Bool} {v v' : V} (h : FairR ws v) (h' : FairR ws v') : v = v' := by
 rcases h with ⟨e, rfl⟩ | ⟨e, e2, rfl⟩ | ⟨e, M, rfl, hM, hle⟩ <;> rcases h' with ⟨e', rfl⟩ | ⟨e', e2', rfl⟩ | ⟨e', M', rfl, hM', hle'⟩
 ·rfl
 ·exact absurd e e'
 ·subst e; exact absurd rfl e'
 ·exact absurd e' e
 ·rfl
 ·exact absurd e2 e'
 ·subst e'; exact absurd rfl e
 ·exact absurd e2' e
 ·have := hle _ hM'; have := hle' _ hM; congr 1; omega
theorem LastR.uniq {ws : List Wi} {M M' : Int} (h : LastR ws M) (h' : LastR ws M') : M = M' := by
 rcases h with ⟨e, rfl⟩ | ⟨⟨w, hw, rfl⟩, h2⟩ <;> rcases h' with ⟨e', rfl⟩ | ⟨⟨w', hw', rfl⟩, h2'⟩
 ·rfl
 ·subst e; cases hw'
 ·subst e'; cases hw
 ·have := h2 _ hw'; have := h2' _ hw; omega
noncomputable def bgF (w : Wi) : Int := if w.2.1 = "begin" then 4 else 0
noncomputable def ptF (w : Wi) : Int := if w.2.1 = "put" then (match w.2.2 with | .str z => (z.length : Int) / 4 + (if (z.length : Int) % 4 > 0 then 1 else 0) | _ => 0) else 0
theorem th_split {w : Wi} (h : wok w) : bgF w + ptF w = thF w := by
 unfold bgF ptF thF
 by_cases c1 : w.2.1 = "begin"
 ·rw [if_pos c1, if_pos c1, if_neg (by rw [c1]; decide)]
  rfl
 ·rw [if_neg c1, if_neg c1]
  by_cases c2 : w.2.1 = "put"
  ·rw [if_pos c2, if_pos c2]
   obtain ⟨z, hz, _⟩ := h.1 c2
   rw [hz]
   show 0 + ((z.length : Int) / 4 + (if (z.length : Int) % 4 > 0 then 1 else 0)) = ((z.length : Int) + 3) / 4
   split <;> omega
  ·rw [if_neg c2, if_neg c2]
   rfl
theorem th_sum : ∀ {ws : List Wi}, (∀ w ∈ ws, wok w) → (ws.map bgF).sum + (ws.map ptF).sum = (ws.map thF).sum
 | [], _ => rfl
 | w :: l, h => by
  have h1 := th_sum (ws := l) fun x hx => h x (List.mem_cons_of_mem _ hx)
  have h2 := th_split (h w (List.mem_cons_self ..))
  simp only [List.map_cons, List.sum_cons]
  omega
theorem wish_dn {K : PySem.W.Frag} {H : Hp} : ∀ {ys : List Addr} {ws : List Wi}, Paired (WishT H) ys ws → ∃ ds, Paired (Dn K H 1) (ys.map V.ref) ds
 | _, _, .nil => ⟨[], .nil⟩
 | _, _, .cons r rr => by
  obtain ⟨ds, h⟩ := wish_dn (K := K) rr
  obtain ⟨sd, hW, _, hv, _⟩ := r
  rcases hv with hv | ⟨i, hv⟩ | ⟨z, hv⟩
  ·rw [hv] at hW
   exact ⟨_, .cons (dn_tup (n := 0) hW (.cons dn_int (.cons dn_int (.cons dn_str (.cons (show Dn K H 0 .non .non from .inl ⟨rfl, rfl⟩) .nil))))) h⟩
  ·rw [hv] at hW
   exact ⟨_, .cons (dn_tup (n := 0) hW (.cons dn_int (.cons dn_int (.cons dn_str (.cons dn_int .nil))))) h⟩
  ·rw [hv] at hW
   exact ⟨_, .cons (dn_tup (n := 0) hW (.cons dn_int (.cons dn_int (.cons dn_str (.cons dn_str .nil))))) h⟩
theorem cut60b {ns : List Int} : ∃ ms : List Int, cutV (ns.map V.int) (some 4) (some 64) = ms.map V.int ∧ ms.length ≤ 60 := by
 refine ⟨_, cut_ints, ?_⟩
 have e : HT.sIx ns.length 0 (some 4) = min 4 ns.length := HT.sIx_nat ns.length 0 4
 have e2 : HT.sIx ns.length ns.length (some 64) = min 64 ns.length := HT.sIx_nat ns.length ns.length 64
 rw [List.length_take, List.length_drop, e, e2]
 omega
theorem ok_law (T : Txt K mg C_Terms C_RoadError C_BadTerms C_NotWide) : FnAt P w K mg base CX0 "law" 5 ["_law_script"] (spLaw K) := by
 refine T.d_law.fn sc_law bd_law (fun vs H Q E h => ?_) fun f cdv A outer s H vs Q E HR h => ?_
 ·unfold spLaw at h; split at h <;> first | rfl | exact h.elim
 ·unfold spLaw at h
  split at h
  ·rename_i a
   obtain ⟨ns, hS, hl, _, q⟩ := h
   refine ⟨_, (QSs.h (qss_mid (qs_if (pt_q (pe_fnQ (ok__law_is_row T) HR (by decide) rfl (pa_q (pe_fnQ (ok__law_cell_at T) HR (by decide) rfl (pa_q (pv 0) (pa_q pe_int pa_nil))) pa_nil))) (qss_cons ⟨(ps_asgQ (pe_fnQ (ok__law_any_measures T) HR (by decide) rfl (pa_q (pe_fnQ (ok__law_cell_at T) HR (by decide) rfl (pa_q (pv 0) (pa_q pe_int pa_nil))) pa_nil)) (pg_tupX K (n := 5) rfl rfl (pgs_q (pg_name (i := 1) sc_law.nd rfl (Or.inl rfl)) (pgs_q (pg_name (i := 2) sc_law.nd rfl (Or.inl rfl)) (pgs_q (pg_name (i := 3) sc_law.nd rfl (Or.inl rfl)) (pgs_q (pg_name (i := 4) sc_law.nd rfl (Or.inl rfl)) (pgs_q (pg_name (i := 5) sc_law.nd rfl (Or.inl rfl)) pgs_nil)))))))⟩
 (qss_hold (qss_cons ⟨(ps_setQ (i := 6) sc_law.nd rfl (Or.inl rfl) (pe_fnQ (ok__law_any_roads T) HR (by decide) rfl (pa_q (pv 0) (pa_q (pv 3) pa_nil))))⟩
 (qss_one ⟨(ps_setQ (i := 7) sc_law.nd rfl (Or.inl rfl) (pe_fnQ (ok__law_any_wishes T) HR (by decide) rfl (pa_q (pe_fnQ (ok__law_cell_at T) HR (by decide) rfl (pa_q (pv 0) (pa_q pe_int pa_nil))) (pa_q pe_int (pa_q pe_int (pa_q pe_int pa_nil))))))⟩)))) (qss_cons ⟨(ps_setQ (i := 8) sc_law.nd rfl (Or.inl rfl) (pe_fnQ (ok__law_mixed T) HR (by decide) rfl (pa_q (pe_fnQ (ok__law_cell_at T) HR (by decide) rfl (pa_q (pv 0) (pa_q pe_int pa_nil))) (pa_q pe_int pa_nil))))⟩
 (qss_hold (qss_cons ⟨(ps_setQ (i := 1) sc_law.nd rfl (Or.inl rfl) pe_int)⟩
 (qss_cons (qs_setQ (i := 2) sc_law.nd rfl (Or.inl rfl) (qe_tup (qa_q ⟨(pe_op (op_addK K rfl) pe_int (pe_op op_mod (pv 8) pe_int))⟩ (qa_q ⟨(pe_op (op_addK K rfl) pe_int (pe_op op_mod (pe_op op_fdiv (pv 8) pe_int) pe_int))⟩ qa_nil))))
 (qss_cons ⟨(ps_setQ (i := 3) sc_law.nd rfl (Or.inl rfl) (pe_op (op_addK K rfl) pe_int (pe_op op_mod (pe_op op_fdiv (pv 8) pe_int) pe_int)))⟩
 (qss_hold (qss_cons ⟨(ps_setQ (i := 5) sc_law.nd rfl (Or.inl rfl) (pe_op (op_addK K rfl) pe_int (pe_op op_mod (pe_op op_fdiv (pv 8) pe_int) pe_int)))⟩
 (qss_cons ⟨(ps_setQ (i := 4) sc_law.nd rfl (Or.inl rfl) (pe_op (op_addK K rfl) pe_int (pe_op op_mod (pe_fnQ (ok__law_cell_at T) HR (by decide) rfl (pa_q (pv 0) (pa_q pe_int pa_nil))) (pe_op op_sub (pv 5) pe_int))))⟩
 (qss_hold (qss_cons (qs_setQ (i := 6) sc_law.nd rfl (Or.inl rfl) (qe_tup (qa_q ⟨(pe_fnQ (ok__law_deeds T) HR (by decide) rfl (pa_q (pe_fnQ (ok__law_cell_at T) HR (by decide) rfl (pa_q (pv 0) (pa_q pe_int pa_nil))) (pa_q (pv 3) pa_nil)))⟩ (qa_q ⟨(pe_fnQ (ok__law_deeds T) HR (by decide) rfl (pa_q (pe_fnQ (ok__law_cell_at T) HR (by decide) rfl (pa_q (pv 0) (pa_q pe_int pa_nil))) (pa_q (pv 3) pa_nil)))⟩ qa_nil))))
 (qss_hold (qss_one ⟨(ps_setc (i := 7) (N := (["_law_cell"] : List Str)) (nv := 1) (ix := []) rfl sc_law.nd rfl rfl (cs_of (by kernel_rfl)) (pi_seqK K rfl (pe_slice (sl_K K rfl) (pv 0) (po_some pe_int) (po_some pe_int))) (fun _ _ _ _ _ => (pg_name (i := 0) (show ((["_law_cell"] : List Str)).Nodup by decide) rfl (Or.inl rfl))) (fun _ _ _ _ _ => pts_nil) (fun _ _ _ _ _ => (pe_fnQ (ok__law_wish T) HR (by decide) rfl (pa_q (pv 0) pa_nil))))⟩)))))))))))))
 (qss_hold (qss_cons ⟨(ps_setQ (i := 9) sc_law.nd rfl (Or.inl rfl) (pe_mkC T.k_Terms (ok_Terms___init__ T) HR (by decide) rfl (pa_q (pv 1) (pa_q (pv 2) (pa_q (pv 3) (pa_q (pv 4) (pa_q (pv 5) pa_nil)))))))⟩
 (qss_hold (qss_cons (qs_setQ (i := 10) sc_law.nd rfl (Or.inl rfl) (qe_tup (qa_q ⟨(pe_comp (N := (["_law_deed"] : List Str)) (nv := 1) (ix := []) rfl (cs_of (by kernel_rfl)) (pi_seqK K rfl (pe_ix (ix_B K rfl) (pv 6) pe_int (fun _ _ => rfl))) (fun _ _ _ _ _ => (pg_name (i := 0) (show ((["_law_deed"] : List Str)).Nodup by decide) rfl (Or.inl rfl))) (fun _ _ _ _ _ => pts_nil) (fun _ _ _ _ _ => (pe_callTyQ (call_listK K rfl) (by rfl) T.b_list bt_list (pa_q (pv 0) pa_nil))))⟩ (qa_q ⟨(pe_comp (N := (["_law_deed"] : List Str)) (nv := 1) (ix := []) rfl (cs_of (by kernel_rfl)) (pi_seqK K rfl (pe_ix (ix_B K rfl) (pv 6) pe_int (fun _ _ => rfl))) (fun _ _ _ _ _ => (pg_name (i := 0) (show ((["_law_deed"] : List Str)).Nodup by decide) rfl (Or.inl rfl))) (fun _ _ _ _ _ => pts_nil) (fun _ _ _ _ _ => (pe_callTyQ (call_listK K rfl) (by rfl) T.b_list bt_list (pa_q (pv 0) pa_nil))))⟩ qa_nil))))
 (qss_hold (qss_cons ⟨(ps_setQ (i := 11) sc_law.nd rfl (Or.inl rfl) (pe_callTyQ (call_listK K rfl) (by rfl) T.b_list bt_list (pa_q (pv 7) pa_nil)))⟩
 (qss_hold (qss_cons ⟨(ps_setQ (i := 12) sc_law.nd rfl (Or.inl rfl) (pe_callBQ (call_sumK K rfl rfl) (by rfl) T.b_sum bt_sum (pa_q (pe_comp (N := (["_law_wish_here"] : List Str)) (nv := 1) (ix := []) rfl (cs_of (by kernel_rfl)) (pi_seqK K rfl (pv 7)) (fun _ _ _ _ _ => (pg_name (i := 0) (show ((["_law_wish_here"] : List Str)).Nodup by decide) rfl (Or.inl rfl))) (fun _ _ _ _ _ => (pts_one (pt_cmpR (op_eqXK K rfl HR.units) (pe_ix (ix_B K rfl) (pv 0) pe_int (fun _ _ => rfl)) pe_str (nomark _)))) (fun _ _ _ _ _ => pe_int)) pa_nil)))⟩
 (qss_hold (qss_cons ⟨(ps_for PassesOwn.never rfl (pi_seqK K rfl (pv 7)) (pg_name (i := 13) sc_law.nd rfl (Or.inl rfl)) (pss_one (ps_if (pt_cmpR (op_eqXK K rfl HR.units) (pe_ix (ix_B K rfl) (pv 13) pe_int (fun _ _ => rfl)) pe_str (nomark _)) (pss_one (ps_setQ (i := 12) sc_law.nd rfl (Or.inl rfl) (pe_op (op_addK K rfl) (pe_op (op_addK K rfl) (pv 12) (pe_op op_fdiv (pe_callBQ (call_lenB K rfl) (by rfl) T.b_len bt_len (pa_q (pe_ix (ix_B K rfl) (pv 13) pe_int (fun _ _ => rfl)) pa_nil)) pe_int)) (pe_callTyQ call_int1 (by rfl) T.b_int bt_int (pa_q (pe_cmpR op_gt (pe_op op_mod (pe_callBQ (call_lenB K rfl) (by rfl) T.b_len bt_len (pa_q (pe_ix (ix_B K rfl) (pv 13) pe_int (fun _ _ => rfl)) pa_nil)) pe_int) pe_int (nomark _)) pa_nil))))) pss_nil)))⟩
 (qss_hold (qss_cons (qs_if (PW.pt (pw_or (pt_not (pt_q (pe_fnQ (ok__law_whole T) HR (by decide) rfl (pa_q (pe_fnQ (ok_things_at_most T) HR (by decide) rfl (pa_q (pv 11) pa_nil)) pa_nil)))) (pw_or1 (pt_cmpR (op_neXK K rfl HR.units) (pe_fnQ (ok_things_at_most T) HR (by decide) rfl (pa_q (pv 11) pa_nil)) (pv 12) (nomark _))))) (qss_one ⟨(ps_ret pe_bl)⟩) qss_nil)
 (qss_hold (qss_cons ⟨(ps_setQ (i := 14) sc_law.nd rfl (Or.inl rfl) (pe_fnQ (ok_reckoned T) HR (by decide) rfl (pa_q (pv 9) (pa_q (pv 10) (pa_q (pv 11) pa_nil)))))⟩
 (qss_hold (qss_cons (qs_if (PW.pt (pw_or (pt_cmpR (op_neXK K rfl HR.units) (pv 10) (pv 6) (nomark _)) (pw_or1 (pt_cmpR (op_neXK K rfl HR.units) (pv 11) (pv 7) (nomark _))))) (qss_one ⟨(ps_ret pe_bl)⟩) qss_nil)
 (qss_hold (qss_cons (qs_setQ (i := 15) sc_law.nd rfl (Or.inl rfl) (qe_lst (qa_q ⟨(pe_fnQ (ok__law_fair T) HR (by decide) rfl (pa_q (pe_ix (ix_B K rfl) (pv 6) pe_int (fun _ _ => rfl)) pa_nil))⟩ (qa_q ⟨(pe_fnQ (ok__law_fair T) HR (by decide) rfl (pa_q (pe_ix (ix_B K rfl) (pv 6) pe_int (fun _ _ => rfl)) pa_nil))⟩ qa_nil))))
 (qss_hold (qss_cons (qs_if (PW.pt (pw_or (pt_cmpR op_isNA (pe_ix (ix_B K rfl) (pv 15) pe_int (fun _ _ => rfl)) pe_non (nomark _)) (pw_or1 (pt_cmpR op_isNA (pe_ix (ix_B K rfl) (pv 15) pe_int (fun _ _ => rfl)) pe_non (nomark _))))) (qss_one ⟨(ps_ret (pe_cmpR op_isNA (pv 14) pe_non (nomark _)))⟩) qss_nil)
 (qss_hold (qss_cons ⟨(ps_setQ (i := 16) sc_law.nd rfl (Or.inl rfl) (pe_callBQ (call_maxB K rfl rfl) (by rfl) T.b_max bt_max (pa_q (pv 15) pa_nil)))⟩
 (qss_hold (qss_cons ⟨(ps_setQ (i := 17) sc_law.nd rfl (Or.inl rfl) (pe_callBQ (call_maxB K rfl rfl) (by rfl) T.b_max bt_max (pa_q (pe_op (op_addK K rfl) (pe_comp (N := (["_law_wish_here"] : List Str)) (nv := 1) (ix := []) rfl (cs_of (by kernel_rfl)) (pi_seqK K rfl (pv 7)) (fun _ _ _ _ _ => (pg_name (i := 0) (show ((["_law_wish_here"] : List Str)).Nodup by decide) rfl (Or.inl rfl))) (fun _ _ _ _ _ => pts_nil) (fun _ _ _ _ _ => (pe_ix (ix_B K rfl) (pv 0) pe_int (fun _ _ => rfl)))) (pe_lst (pa_q (pe_un un_neg pe_int) pa_nil))) pa_nil)))⟩
 (qss_hold (qss_cons ⟨(ps_setQ (i := 18) sc_law.nd rfl (Or.inl rfl) (pe_op (op_addK K rfl) (pe_op (op_addK K rfl) (pe_op (op_addK K rfl) (pe_op op_mul pe_int (pv 12)) (pe_ix (ix_B K rfl) (pv 2) pe_int (fun _ _ => rfl))) (pe_ix (ix_B K rfl) (pv 2) pe_int (fun _ _ => rfl))) pe_int))⟩
 (qss_cons ⟨(ps_setQ (i := 19) sc_law.nd rfl (Or.inl rfl) (pe_op (op_addK K rfl) (pe_op (op_addK K rfl) (pe_op op_mulW (pv 16) (pe_op (op_addK K rfl) (pe_op op_mulW (pv 16) (pv 5)) (pv 3))) (pe_op op_mul pe_int (pv 3))) pe_int))⟩
 (qss_cons ⟨(ps_setQ (i := 20) sc_law.nd rfl (Or.inl rfl) (pe_op (op_addK K rfl) (pe_op (op_addK K rfl) (pe_op (op_addK K rfl) (pe_op (op_addK K rfl) (pv 17) pe_int) (pe_op op_mulW (pv 18) (pv 19))) (pe_op op_mul pe_int (pv 3))) pe_int))⟩
 (qss_hold (qss_one ⟨(ps_ret (pe_and (pe_fnQ (ok__law_whole T) HR (by decide) rfl (pa_q (pv 14) pa_nil)) (pe_one (pe_cmpR (op_eqXK K rfl HR.units) (pv 14) (pv 20) (nomark _)))))⟩)))))))))))))))))))))))))))))))), ?_⟩
   generalize h_u1 : tHold _ = u1
   generalize h_u2 : tHold _ = u2
   generalize h_u3 : tHold _ = u3
   refine ⟨fun σ' H' => Same H H' ∧ ∃ r pr o t g f l rd pa pb da db wi ws v8, H' pr = some (.tup [.int o, .int t]) ∧ good r o t g f l ∧ ¬ r < leastF o t g ∧ H' rd = some (.tup [.ref pa, .ref pb]) ∧ RowT H' pa da ∧ RowT H' pb db ∧ (da.length ≤ 60 ∧ db.length ≤ 60) ∧ WishesT H' wi ws ∧ σ' = [some (V.ref a), some (.int r), some (.ref pr), some (.int g), some (.int f), some (.int l), some (.ref rd), some (.ref wi), v8, none, none, none, none, none, none, none, none, none, none, none, none], ?_, ?_⟩
   ·walk_at "wps"
    refine ⟨ns, hS, fun c0 b => ?_⟩
    cases b with
    | true =>
     rw [if_pos rfl]
     refine ⟨ns, hS, fun c1 p pr r o t g f l H1 sm1 hp hpr hg hw => ?_⟩
     have hS1 := same_lst sm1 hS
     exists hp
     rw [← h_u1, tHold]
     walk_at "wps"
     refine ⟨⟨by have := hg.2.2.1; omega, by have := hg.2.2.1; omega⟩, ns, hS1, fun rd pa pb da db H2 sm2 hrd hda hdb la lb => ?_⟩
     have hS2 := same_lst sm2 hS1
     exact ⟨ns, hS2, fun c2 p3 ws H3 sm3 _ hws => ⟨fun b o e => sm3 _ _ (sm2 _ _ (sm1 b o e)), r, pr, o, t, g, f, l, rd, pa, pb, da, db, p3, ws, _, sm3 _ _ (sm2 _ _ hpr), hg, hw, sm3 _ _ hrd, hda.same sm3, hdb.same sm3, ⟨la, lb⟩, hws, rfl⟩⟩
    | false =>
     rw [if_neg (by decide)]
     refine ⟨ns, hS, fun c1 v hv0 hv1 => ?_⟩
     rw [← h_u2, tHold]
     generalize h_u4 : tHold _ = u4
     walk_at "wps"
     intro pr npr
     have sm1 := same_upd (o := .tup [V.int (1 + v % 16), V.int (1 + v / 16 % 16)]) npr
     have hpr := upd_same (H := H) (a := pr) (o := .tup [V.int (1 + v % 16), V.int (1 + v / 16 % 16)])
     generalize upd H pr (.tup [V.int (1 + v % 16), V.int (1 + v / 16 % 16)]) = H1 at *
     have hS1 := same_lst sm1 hS
     have ho : 1 ≤ 1 + v % 16 ∧ 1 + v % 16 ≤ 16 := by omega
     have ht : 1 ≤ 1 + v / 16 % 16 ∧ 1 + v / 16 % 16 ≤ 16 := by omega
     have hgg : 1 ≤ 1 + v / 256 % 32 ∧ 1 + v / 256 % 32 ≤ 32 := by omega
     have hll : 2 ≤ 2 + v / 8192 % 63 ∧ 2 + v / 8192 % 63 ≤ 64 := by omega
     generalize 1 + v % 16 = o at *
     generalize 1 + v / 16 % 16 = t at *
     generalize 1 + v / 256 % 32 = g at *
     rw [← h_u4, tHold]
     generalize h_u5 : tHold _ = u5
     walk_at "wps"
     generalize 2 + v / 8192 % 63 = l at *
     refine ⟨ns, hS1, fun c3 => ⟨by omega, ?_⟩⟩
     have e1 := Int.emod_nonneg c3 (show l - 1 ≠ 0 by omega)
     have e2 := Int.emod_lt_of_pos c3 (show 0 < l - 1 by omega)
     have hf : 2 ≤ 2 + c3 % (l - 1) ∧ 2 + c3 % (l - 1) ≤ l := by omega
     generalize 2 + c3 % (l - 1) = f at *
     rw [← h_u5, tHold]
     generalize h_u6 : tHold _ = u6
     walk_at "wps"
     refine ⟨ns, hS1, fun c4 => ⟨by omega, fun pa da H2 sm2 hda la => ⟨ns, same_lst sm2 hS1, fun c5 => ⟨by omega, fun pb db H3 sm3 hdb lb rd nrd => ?_⟩⟩⟩⟩
     have sm4 := same_upd (o := .tup [V.ref pa, V.ref pb]) nrd
     have hrd := upd_same (H := H3) (a := rd) (o := .tup [V.ref pa, V.ref pb])
     generalize upd H3 rd (.tup [V.ref pa, V.ref pb]) = H4 at *
     have sm14 : Same H1 H4 := fun b o e => sm4 _ _ (sm3 _ _ (sm2 b o e))
     have hda4 := (hda.row.same sm3).same sm4
     have hdb4 := hdb.row.same sm4
     have hS4 := same_lst sm14 hS1
     have hpr4 := sm14 _ _ hpr
     have sm04 : Same H H4 := fun b o e => sm14 _ _ (sm1 b o e)
     clear sm1 sm2 sm3 sm4 sm14 hda hdb hS1 hpr nrd
     rw [← h_u6, tHold]
     walk_at "wps"
     refine rSlA_list hS4 fun p2 hp2 => ?_
     obtain ⟨ms, em, hms⟩ := cut60b (ns := ns)
     rw [em]
     have sm5 := same_upd (o := .lst (ms.map V.int)) hp2
     have g1 := upd_same (H := H4) (a := p2) (o := .lst (ms.map V.int))
     generalize upd H4 p2 (.lst (ms.map V.int)) = H5 at *
     refine co_listH (xs := ms.map V.int) (SqL.of g1) (small_ok (by rw [List.length_map]; omega)) (fun i ys σ H' => Same H5 H' ∧ (∃ zs ws, ys = zs.map V.ref ∧ Paired (WishT H') zs ws ∧ ws.length = i) ∧ ∃ v, σ = [v]) ⟨Same.refl _, ⟨[], [], rfl, .nil, rfl⟩, _, rfl⟩ (fun i ys σ H' hh => by obtain ⟨_, ⟨zs, ws, rfl, hz, rfl⟩, _⟩ := hh; rw [List.length_map, paired_len hz]; exact Nat.le_refl _) (fun i ys σ H' hh => SqL.of (hh.1 _ _ g1)) (fun i y ys σ H6 hy hh => ?_) (fun ys σ H6 hh => ?_)
     ·obtain ⟨sm6, ⟨zs, ws, rfl, hz, hwl⟩, v', rfl⟩ := hh
      obtain ⟨cc, rfl, _⟩ := map_int_get hy
      walk_at "wps"
      exact fun x w H7 sm7 hx hW => ⟨fun b o e => sm7 _ _ (sm6 b o e), ⟨zs ++ [x], ws ++ [w], by simp, paired_snoc (paired_imp hz fun a b h => h.same sm7) hW, by rw [List.length_append, List.length_singleton, hwl]⟩, _, rfl⟩
     ·obtain ⟨sm6, ⟨zs, ws, rfl, hz, hwl⟩, v', rfl⟩ := hh
      rw [List.length_map] at hwl
      have zl := paired_len hz
      refine ⟨small_ok (by rw [List.length_map]; omega), fun wi nwi => ?_⟩
      have sm7 := same_upd (o := .lst (zs.map V.ref)) nwi
      have sm47 : Same H4 (upd H6 wi (.lst (zs.map V.ref))) := fun b o e => sm7 _ _ (sm6 _ _ (sm5 b o e))
      exact ⟨fun b o e => sm47 _ _ (sm04 b o e), 64, pr, o, t, g, f, l, rd, pa, pb, da, db, wi, ws, _, sm47 _ _ hpr4, ⟨by decide, ⟨ho, ht⟩, hgg, hll, hf⟩, by unfold leastF needF; (repeat' split) <;> omega, sm47 _ _ hrd, hda4.same sm47, hdb4.same sm47, ⟨la, lb⟩, ⟨zs, upd_same, paired_imp hz fun a b h => h.same sm7, by omega⟩, rfl⟩
   rintro σ' H1 ⟨sm1, r, pr, o, t, g, f, l, rd, pa, pb, da, db, wi, ws, v8, hpr, hg, hw, hrd, hda, hdb, hl, hwi, rfl⟩
   rw [← h_u3, tHold]
   generalize h_v1 : tHold _ = v1
   walk_at "wps"
   intro x dx nx ndx _
   have s0 : Same H1 (upd (upd H1 dx (HO.own x)) x (HO.ins C_Terms dx [])) := same_new nx ndx
   refine ⟨o, t, dx, s0 _ _ hpr, rfl, fun h => absurd hg h, fun _ h => absurd h hw, fun _ _ H2 hB2 hx2 => ?_⟩
   have sm2 : Same H1 H2 := fun b o e => hB2 b o (s0 b o e) (ne_of_none e nx)
   have hpr2 := sm2 _ _ hpr
   have hrd2 := sm2 _ _ hrd
   have hda2 := hda.same sm2
   have hdb2 := hdb.same sm2
   have hwi2 := hwi.same sm2
   have hT2 : TmAt C_Terms H2 x r o t g f l := ⟨dx, pr, hx2, hpr2⟩
   clear s0 hB2 sm1 sm2 hpr hrd hda hdb hwi nx ndx hS hx2
   rw [← h_v1, tHold]
   generalize h_v2 : tHold _ = v2
   exists hrd2
   refine copy_row hda2 hl.1 fun xa H3 sm3 pa3 => ?_
   have xal := paired_len pa3
   refine ⟨small_ok (by rw [List.length_map]; omega), fun ha nha => ?_⟩
   have sm4 : Same H2 (upd H3 ha (.lst (xa.map V.ref))) := fun b o e => upd_old (sm3 b o e) nha
   have RA : RowT (upd H3 ha (.lst (xa.map V.ref))) ha da := ⟨xa, upd_same, paired_imp pa3 fun x d h => h.same (same_upd nha), by omega⟩
   generalize upd H3 ha (.lst (xa.map V.ref)) = H4 at *
   exists sm4 _ _ hrd2
   refine copy_row (hdb2.same sm4) hl.2 fun xb H5 sm5 pb5 => ?_
   have xbl := paired_len pb5
   refine ⟨small_ok (by rw [List.length_map]; omega), fun hb nhb => ?_⟩
   have sm6 : Same H4 (upd H5 hb (.lst (xb.map V.ref))) := fun b o e => upd_old (sm5 b o e) nhb
   have RB : RowT (upd H5 hb (.lst (xb.map V.ref))) hb db := ⟨xb, upd_same, paired_imp pb5 fun x d h => h.same (same_upd nhb), by omega⟩
   generalize upd H5 hb (.lst (xb.map V.ref)) = H6 at *
   intro hd nhd
   have sm7 := same_upd (o := .tup [V.ref ha, V.ref hb]) nhd
   have hhd := upd_same (H := H6) (a := hd) (o := .tup [V.ref ha, V.ref hb])
   generalize upd H6 hd (.tup [V.ref ha, V.ref hb]) = H7 at *
   have sm27 : Same H2 H7 := fun b o e => sm7 _ _ (sm6 _ _ (sm4 b o e))
   have RA7 := (RA.same sm6).same sm7
   have RB7 := RB.same sm7
   have hrd7 := sm27 _ _ hrd2
   have hda7 := hda2.same sm27
   have hdb7 := hdb2.same sm27
   have hwi7 := hwi2.same sm27
   have hT7 := hT2.same sm27
   have hpr7 := sm27 _ _ hpr2
   clear RA RB sm3 sm4 sm5 sm6 sm7 sm27 hrd2 hda2 hdb2 hwi2 hT2 hpr2 nha nhb nhd pa3 pb5 xal xbl
   obtain ⟨ys, w1, w2, w3⟩ := hwi7
   have hwl := paired_len w2
   rw [← h_v2, tHold]
   generalize h_v3 : tHold _ = v3
   walk_at "wps"
   refine ⟨_, .inl (SqL.of w1), fun ak nak => ?_⟩
   have sm8 := same_upd (o := .lst (ys.map V.ref)) nak
   have hak := upd_same (H := H7) (a := ak) (o := .lst (ys.map V.ref))
   generalize upd H7 ak (.lst (ys.map V.ref)) = H8 at *
   have w1' := sm8 _ _ w1
   have w2' : Paired (WishT H8) ys ws := paired_imp w2 fun a b h => h.same sm8
   have AK8 : WishesT H8 ak ws := ⟨ys, hak, w2', w3⟩
   have RA8 := RA7.same sm8
   have RB8 := RB7.same sm8
   have hrd8 := sm8 _ _ hrd7
   have hda8 := hda7.same sm8
   have hdb8 := hdb7.same sm8
   have hT8 := hT7.same sm8
   have hpr8 := sm8 _ _ hpr7
   have hhd8 := sm8 _ _ hhd
   clear RA7 RB7 hrd7 hda7 hdb7 hT7 hpr7 hhd w1 w2 sm8 nak
   have woks : ∀ w ∈ ws, wok w := fun w hw => by
    obtain ⟨i, hi⟩ := List.getElem?_of_mem hw
    obtain ⟨a, _, sd, _, hok⟩ := paired_get' w2' hi
    exact hok
   rw [← h_v3, tHold]
   generalize h_v4 : tHold _ = v4
   walk_at "wps"
   refine co_listH (xs := ys.map V.ref) (SqL.of w1') (small_ok (by rw [List.length_map]; omega)) (fun i zs σ H' => H' = H8 ∧ (∃ ns : List Int, zs = ns.map V.int ∧ ns.length ≤ i ∧ ns.sum = ((ws.take i).map bgF).sum) ∧ ∃ v, σ = [v]) ⟨rfl, ⟨[], rfl, Nat.le_refl _, rfl⟩, _, rfl⟩ (fun i zs σ H' hh => by obtain ⟨_, ⟨ns, rfl, h, _⟩, _⟩ := hh; rw [List.length_map]; exact h) (fun i zs σ H' hh => by rw [hh.1]; exact SqL.of w1') (fun i y zs σ H' hy hh => ?_) (fun zs σ H' hh => ?_)
   ·obtain ⟨rfl, ⟨ns, rfl, h1, h2⟩, v, rfl⟩ := hh
    rw [List.getElem?_map] at hy
    obtain ⟨b, hb, rfl⟩ := Option.map_eq_some_iff.mp hy
    obtain ⟨w, hw', sd, hW, _⟩ := paired_get w2' hb
    exists hW
    have e3 : ((ws.take (i + 1)).map bgF).sum = ((ws.take i).map bgF).sum + bgF w := by rw [List.take_add_one, hw', List.map_append, List.sum_append]; simp
    by_cases cb : w.2.1 = Str.ofString "begin"
    ·rw [if_pos cb]
     refine ⟨⟨ns ++ [4], by simp, by rw [List.length_append, List.length_singleton]; omega, ?_⟩, _, rfl⟩
     rw [e3, List.sum_append, h2]
     unfold bgF
     rw [if_pos cb]
     rfl
    ·rw [if_neg cb]
     refine ⟨⟨ns, rfl, by omega, ?_⟩, _, rfl⟩
     rw [e3, h2]
     unfold bgF
     rw [if_neg cb]
     omega
   obtain ⟨rfl, ⟨ns, rfl, h1, h2⟩, v, rfl⟩ := hh
   rw [List.length_map] at h1 h2
   rw [List.take_of_length_le (by omega)] at h2
   refine ⟨small_ok (by rw [List.length_map]; omega), fun l1 nl1 => ⟨ns, SqL.of upd_same, ?_⟩⟩
   rw [h2]
   have sm9 := same_upd (o := .lst (ns.map V.int)) nl1
   generalize upd H' l1 (.lst (ns.map V.int)) = H9 at *
   have w1'' := sm9 _ _ w1'
   have w2'' : Paired (WishT H9) ys ws := paired_imp w2' fun a b h => h.same sm9
   have sth := sum_th woks
   have eth := th_sum woks
   replace AK8 := AK8.same sm9
   replace hak := sm9 _ _ hak
   replace RA8 := RA8.same sm9
   replace RB8 := RB8.same sm9
   replace hrd8 := sm9 _ _ hrd8
   replace hda8 := hda8.same sm9
   replace hdb8 := hdb8.same sm9
   replace hT8 := hT8.same sm9
   replace hpr8 := sm9 _ _ hpr8
   replace hhd8 := sm9 _ _ hhd8
   clear w1' w2' sm9 nl1
   rw [← h_v4, tHold]
   generalize h_v5 : tHold _ = v5
   walk_at "wps"
   refine fo_list (xs := ys.map V.ref) (SqL.of w1'') (fun i σ H' => H' = H9 ∧ ∃ v13, σ = [some (V.ref a), some (V.int r), some (V.ref pr), some (V.int g), some (V.int f), some (V.int l), some (V.ref rd), some (V.ref wi), v8, some (V.ref x), some (V.ref hd), some (V.ref ak), some (V.int ((ws.map bgF).sum + ((ws.take i).map ptF).sum)), v13, none, none, none, none, none, none, none]) ⟨rfl, none, by simp⟩ (fun i σ H' _ hh => by rw [hh.1]; exact SqL.of w1'') (fun i y σ H' hy hh => ?_) (fun σ H' hh => ?_)
   ·obtain ⟨rfl, v13, rfl⟩ := hh
    rw [List.getElem?_map] at hy
    obtain ⟨b, hb, rfl⟩ := Option.map_eq_some_iff.mp hy
    obtain ⟨w, hw', sd, hW, hok⟩ := paired_get w2'' hb
    exists hW
    have e3 : ((ws.take (i + 1)).map ptF).sum = ((ws.take i).map ptF).sum + ptF w := by rw [List.take_add_one, hw', List.map_append, List.sum_append]; simp
    rw [e3]
    by_cases cp : w.2.1 = Str.ofString "put"
    ·rw [if_pos cp]
     obtain ⟨z, hz, hzl⟩ := hok.1 cp
     have e4 : ptF w = (z.length : Int) / 4 + (if (z.length : Int) % 4 > 0 then 1 else 0) := by unfold ptF; rw [if_pos cp, hz]
     rw [hz] at hW
     rw [hz, e4]
     walk_at "wps"
     refine ⟨by rw [sizeLine_eq]; omega, ?_⟩
     exists hW
     refine ⟨by rw [sizeLine_eq]; omega, .inr ⟨_, rfl, some (.ref b), ?_⟩⟩
     have e5 : (ws.map bgF).sum + ((ws.take i).map ptF).sum + (z.length : Int) / 4 + (if decide (0 < (z.length : Int) % 4) = true then 1 else 0) = (ws.map bgF).sum + (((ws.take i).map ptF).sum + ((z.length : Int) / 4 + (if (z.length : Int) % 4 > 0 then 1 else 0))) := by
      by_cases cq : 0 < (z.length : Int) % 4
      ·rw [if_pos (decide_eq_true cq), if_pos cq]; omega
      ·rw [if_neg (by rw [decide_eq_false cq]; decide), if_neg cq]; omega
     rw [e5]
    ·rw [if_neg cp]
     have e4 : ptF w = 0 := by unfold ptF; rw [if_neg cp]
     rw [e4, Int.add_zero]
     exact ⟨_, rfl⟩
   obtain ⟨rfl, v13, rfl⟩ := hh
   rw [List.length_map, List.take_of_length_le (by omega), eth]
   rw [← h_v5, tHold]
   generalize h_v6 : tHold _ = v6
   walk_at "wps"
   refine ⟨ws, AK8, fun Ha sma => ⟨ws, AK8.same sma, fun Hb smb => ?_⟩⟩
   rw [if_neg (by simp)]
   have sm9 : Same H' Hb := fun b o e => smb _ _ (sma b o e)
   replace AK8 := AK8.same sm9
   replace hak := sm9 _ _ hak
   replace RA8 := RA8.same sm9
   replace RB8 := RB8.same sm9
   replace hrd8 := sm9 _ _ hrd8
   replace hda8 := hda8.same sm9
   replace hdb8 := hdb8.same sm9
   replace hT8 := hT8.same sm9
   replace hpr8 := sm9 _ _ hpr8
   replace hhd8 := sm9 _ _ hhd8
   replace w1'' := sm9 _ _ w1''
   replace w2'' : Paired (WishT Hb) ys ws := paired_imp w2'' fun a b h => h.same sm9
   clear sm9 sma smb
   rw [← h_v6, tHold]
   generalize h_v7 : tHold _ = v7
   walk_at "wps"
   refine ⟨r, o, t, g, f, l, ha, hb, da, db, ws, hT8, hg, hhd8, RA8, RB8, hl, AK8, fun va vb Hc smc hva hvb => ?_⟩
   have tail : ∀ fv, (((va = .non ∨ vb = .non) ∧ fv = .non) ∨ ∃ x y M, va = .int x ∧ vb = .int y ∧ LastR ws M ∧ fv = .int (recF M ((ws.map thF).sum) o t g l (if x < y then y else x))) → v7 { nx := fun _ H' => Q .non H', rt := Q } [some (V.ref a), some (V.int r), some (V.ref pr), some (V.int g), some (V.int f), some (V.int l), some (V.ref rd), some (V.ref wi), v8, some (V.ref x), some (V.ref hd), some (V.ref ak), some (V.int (ws.map thF).sum), v13, some fv, none, none, none, none, none, none] Hc := by
    intro fv hfv
    have RAc := RA8.same smc
    have RBc := RB8.same smc
    have hrdc := smc _ _ hrd8
    have hdac := hda8.same smc
    have hdbc := hdb8.same smc
    have hprc := smc _ _ hpr8
    have hhdc := smc _ _ hhd8
    have w1c := smc _ _ w1''
    have w2c : Paired (WishT Hc) ys ws := paired_imp w2'' fun a b h => h.same smc
    have hakc := smc _ _ hak
    obtain ⟨ds, hds⟩ := wish_dn (K := K) w2c
    rw [← h_v7, tHold]
    generalize h_u8 : tHold _ = u8
    walk_at "wps"
    refine ⟨4, _, _, by decide, dn_tup hhdc (.cons RAc.dn (.cons RBc.dn .nil)), dn_tup hrdc (.cons hdac.dn (.cons hdbc.dn .nil)), .inl ⟨rfl, _, rfl, ?_⟩⟩
    rw [if_neg (by decide)]
    refine ⟨2, _, _, by decide, dn_lst hakc hds, dn_lst w1c hds, .inl ⟨rfl, _, rfl, ?_⟩⟩
    rw [if_neg (by decide)]
    rw [← h_u8, tHold]
    generalize h_u9 : tHold _ = u9
    exists hrdc
    refine ⟨da, hdac, hl.1, fun va' Hd smd hva' => ?_⟩
    obtain rfl := hva'.uniq hva
    have hrdd := smd _ _ hrdc
    exists hrdd
    refine ⟨db, hdbc.same smd, hl.2, fun vb' He sme hvb' pf npf => ?_⟩
    obtain rfl := hvb'.uniq hvb
    have sm10 : Same Hc (upd He pf (.lst [va', vb'])) := fun b o e => upd_old (sme _ _ (smd b o e)) npf
    have hpf := upd_same (H := He) (a := pf) (o := .lst [va', vb'])
    generalize upd He pf (.lst [va', vb']) = Hf at *
    rw [← h_u9, tHold]
    generalize h_u10 : tHold _ = u10
    exists hpf
    rcases hfv with ⟨hn, rfl⟩ | ⟨x1, y1, M1, rfl, rfl, hM1, rfl⟩
    ·rw [decide_eq_true rfl]
     by_cases c1 : va' = .non
     ·rw [if_pos c1]; exact q _
     ·rw [if_neg c1, if_pos (hn.resolve_left c1)]; exact q _
    rw [if_neg (by simp), if_neg (by simp)]
    have lx := hva.le (by rw [List.length_map]; exact hl.1)
    have ly := hvb.le (by rw [List.length_map]; exact hl.2)
    have hx1 : 1 ≤ x1 ∧ x1 ≤ 60 := by rcases lx with c | ⟨x2, e, h⟩; (· cases c); (· cases e; exact h)
    have hy1 : 1 ≤ y1 ∧ y1 ≤ 60 := by rcases ly with c | ⟨x2, e, h⟩; (· cases c); (· cases e; exact h)
    have w1f := sm10 _ _ w1c
    have w2f : Paired (WishT Hf) ys ws := paired_imp w2c fun a b h => h.same sm10
    have hprf := sm10 _ _ hprc
    rw [← h_u10, tHold]
    generalize h_u11 : tHold _ = u11
    walk_at "wps"
    refine ⟨[x1, y1], SqL.of hpf, by simp, fun M hM hle => ?_⟩
    have eM : M = if x1 < y1 then y1 else x1 := by
     have h1 := hle x1 (by simp)
     have h2 := hle y1 (by simp)
     simp only [List.mem_cons, List.not_mem_nil, or_false] at hM
     split <;> omega
    have hMb : 1 ≤ M ∧ M ≤ 60 := by rw [eM]; split <;> omega
    rw [← eM]
    rw [← h_u11, tHold]
    generalize h_u12 : tHold _ = u12
    walk_at "wps"
    refine co_listH (xs := ys.map V.ref) (SqL.of w1f) (small_ok (by rw [List.length_map]; omega)) (fun i zs σ H' => H' = Hf ∧ zs = ((ws.take i).map (fun w => w.1)).map V.int ∧ ∃ v, σ = [v]) ⟨rfl, rfl, _, rfl⟩ (fun i ys σ H' hh => by rw [hh.2.1, List.length_map, List.length_map, List.length_take]; exact Nat.min_le_left _ _) (fun i ys σ H' hh => by rw [hh.1]; exact SqL.of w1f) (fun i x ys σ H' hx hh => ?_) (fun zs σ H' hh => ?_)
    ·obtain ⟨rfl, rfl, v, rfl⟩ := hh
     rw [List.getElem?_map] at hx
     obtain ⟨a, ha, rfl⟩ := Option.map_eq_some_iff.mp hx
     obtain ⟨w, hw', ⟨sd, hW, _⟩⟩ := paired_get w2f ha
     exists hW
     refine ⟨?_, _, rfl⟩
     rw [List.take_add_one, hw', List.map_append, List.map_append]
     rfl
    obtain ⟨rfl, rfl, v, rfl⟩ := hh
    rw [List.take_of_length_le (by rw [List.length_map]; omega)]
    refine ⟨small_ok (by rw [List.length_map, List.length_map]; omega), fun q1 nq1 q2 nq2 => ?_⟩
    have f1 := upd_old (o := .lst [V.int (-1)]) (upd_same (H := H') (a := q1) (o := .lst ((ws.map (fun w => w.1)).map V.int))) nq2
    have f2 := upd_same (H := upd H' q1 (.lst ((ws.map (fun w => w.1)).map V.int))) (a := q2) (o := .lst [V.int (-1)])
    have sm11 : Same H' (upd (upd H' q1 (.lst ((ws.map (fun w => w.1)).map V.int))) q2 (.lst [V.int (-1)])) := fun b o e => upd_old (upd_old e nq1) nq2
    generalize upd (upd H' q1 (.lst ((ws.map (fun w => w.1)).map V.int))) q2 (.lst [V.int (-1)]) = Hg at *
    refine addA_lists f1 f2 (small_ok (by rw [List.length_map, List.length_map, List.length_singleton]; omega)) fun q3 nq3 => ?_
    have hprg := upd_old (o := .lst ((ws.map (fun w => w.1)).map V.int ++ [V.int (-1)])) (sm11 _ _ hprf) nq3
    have f3 : upd Hg q3 (.lst ((ws.map (fun w => w.1)).map V.int ++ [V.int (-1)])) q3 = some (.lst ((ws.map (fun w : Wi => w.1) ++ [-1]).map V.int)) := by rw [upd_same, List.map_append]; rfl
    generalize upd Hg q3 (.lst ((ws.map (fun w => w.1)).map V.int ++ [V.int (-1)])) = Hh at *
    walk_at "wps"
    refine ⟨_, SqL.of f3, by rw [List.length_append, List.length_singleton]; omega, fun M2 hM2 hle2 => ?_⟩
    have eM2 : M2 = M1 := by
     have hlast : LastR ws M2 := by
      rcases List.mem_append.mp hM2 with h | h
      ·obtain ⟨w, hw', rfl⟩ := List.mem_map.mp h
       exact .inr ⟨⟨w, hw', rfl⟩, fun w2 hw2 => hle2 _ (List.mem_append_left _ (List.mem_map_of_mem hw2))⟩
      ·have e := List.mem_singleton.mp h
       cases ws with
       | nil => exact .inl ⟨rfl, e⟩
       | cons w0 wl =>
        have h3 := hle2 w0.1 (List.mem_append_left _ (List.mem_map_of_mem (List.mem_cons_self ..)))
        have h4 := (woks w0 (List.mem_cons_self ..)).2.2
        omega
     exact hlast.uniq hM1
    subst eM2
    rw [← h_u12, tHold]
    generalize h_u13 : tHold _ = u13
    exists hprg
    obtain ⟨hg1, hg2, hg3, hg4, hg5⟩ := hg
    refine ⟨mulW_l ⟨by omega, by omega⟩, mulW_l ⟨by omega, by omega⟩, mulW_l ⟨by omega, by omega⟩, ?_⟩
    rw [← h_u13, tHold]
    walk_at "wps"
    unfold recF
    rw [show 4 * (ws.map thF).sum + o + t + 1 = 4 * (ws.map thF).sum + (o + t) + 1 by omega]
    rw [decide_eq_true rfl]
    exact q _
   exact ⟨fun c => tail _ (.inl ⟨c, rfl⟩), fun x y M hx hy hM => tail _ (.inr ⟨x, y, M, hx, hy, hM, rfl⟩)⟩
  ·exact h.elim
end
theorem fin {P : Program} {w : World} {K : PySem.W.Frag} {h : Heap} {mg : Str → Option Value} {fa : Addr} {C_Terms C_RoadError C_BadTerms C_NotWide : Addr} (KX : K.In h) (G : h.Ns mainGlobals mg) (hmg : mg "law" = some (.ref fa)) (T : Txt K mg C_Terms C_RoadError C_BadTerms C_NotWide) :
  ∃ fd : FuncData, (∀ (s : Shared) (u : Value), BindsTo s fd ⟨[u], []⟩ [("_law_script", u)]) ∧ ∀ base : Heap, K.In base → base.Ns mainGlobals mg → FnOk P w K mg base CX0 5 fa fd ["_law_script"] (spLaw K) :=
 law_fin hmg T.d_law bd_law fun base => ok_law T
end K72
open PySem PySem.W PyProof.Rows
set_option maxRecDepth 100000 in
set_option maxHeartbeats 0 in
theorem PySem.Challenge.cw_slowroad_k72_reckoned_holds : PySem.Challenge.rw_slowroad_k72_reckoned.Holds := by
 w_on; o_law
 refine holds_open (q := K72.hdView) (loose := []) (Xt := fun s => xlAt K72.hdView [] s && recOk (RowW.records (OpenRow.toRowW (OpenLaw.row PySem.Challenge.rw_slowroad_k72_reckoned))) s) (XP := XL K72.hdView []) (Yf := Hook.obs (kHook K72.hdK K72.hdAdr K72.hd_he)) (Ya := Hook.val (kHook K72.hdK K72.hdAdr K72.hd_he)) (YP := Hook.says (kHook K72.hdK K72.hdAdr K72.hd_he)) (N := 3574) K72.hd_hl (Hook.of (kHook K72.hdK K72.hdAdr K72.hd_he)) (Hook.keeps (kHook K72.hdK K72.hdAdr K72.hd_he)) (fun s e => xl_of s (Bool.and_eq_true_iff.mp e).1) XL.keeps (by rfl) (by rfl) (by rfl) (fun s e => recFacts_of (Bool.and_eq_true_iff.mp e).2) (by rfl) (by first | assumption | decide +kernel) (by decide +kernel) ⟨rfl, rfl, rfl, rfl, rfl, by decide +kernel⟩ ?hw ?hc
 case hw => w_witness2
 k_fill
 refine L2.law_walk (l := PySem.Challenge.rw_slowroad_k72_reckoned) (k := 5) (x := "_law_script") rfl rfl ⟨rfl, by decide, by decide⟩ (fun w h Y => PySem.W.kIn_of Y) ?F
 case F =>
  intro w mg fa h KX G hmg
  refine' K72.fin KX G hmg ?TT
  case TT =>
   refine' K72.Txt.mk ?k_Terms ?n_Terms_ring ?n_Terms_rooms ?n_Terms_lag ?n_Terms_first ?n_Terms_longest ?xm_RoadError ?xm_BadTerms ?xm_NotWide ?x_BadTerms ?g_BadTerms ?qv_BadTerms ?q_BadTerms_RoadError ?m_BadTerms_RoadError ?q_BadTerms_BadTerms ?m_BadTerms_BadTerms ?q_BadTerms_NotWide ?m_BadTerms_NotWide ?x_NotWide ?g_NotWide ?kp_NotWide ?xf_NotWide_least ?qv_NotWide ?q_NotWide_RoadError ?m_NotWide_RoadError ?q_NotWide_BadTerms ?m_NotWide_BadTerms ?q_NotWide_NotWide ?m_NotWide_NotWide ?d_is_from ?d_NotWide___init__ ?d_has_whole_copy ?d_fairness ?d_last_turn_of ?d_things_of ?d_things_at_most ?d_reckoned ?d_need ?d_are_rooms ?d_are_waits ?d_Terms___init__ ?d__law_whole ?d__law_cell_at ?d__law_is_row ?d__law_digit ?d__law_any_text ?d__law_any_deeds ?d__law_any_wishes ?d__law_any_measures ?d__law_any_roads ?d__law_mixed ?d__law_deeds ?d__law_fair ?d__law_wish ?d_law ?b_all ?b_any ?b_bool ?b_enumerate ?b_int ?b_isinstance ?b_len ?b_list ?b_max ?b_range ?b_sum ?b_tuple ?b_zip ?c_SIGNS_MOST ?c_THINGS_OF_BEGIN ?c_RING_MOST ?c_ROOM_MOST ?c_LAG_MOST ?c_WAIT_LEAST ?c_WAIT_MOST
   case k_Terms => refine' L2.klsat_mk KX G ?a ?pg ?hd ?po ?sa ?mk ?kc; (case a => k_is); (case pg => k_is); (case hd => k_is); (case po => k_is); (case sa => k_is); (case mk => k_is); (case kc => k_is)
   case n_Terms_ring | n_Terms_rooms | n_Terms_lag | n_Terms_first | n_Terms_longest => refine' L2.noattr_mk ?a; (case a => k_is)
   case xm_RoadError | xm_BadTerms | xm_NotWide => refine' L2.xmat_mk KX G ?a ?t ?b; (case a => k_is); (case t => k_is); (case b => k_is)
   case x_BadTerms => refine' L2.xcat_mk KX G ?a ?l ?o ?i ?t ?l2 ?o2 ?i2 ?t2; (case a => k_is); (case l => k_is); (case o => kernel_rfl); (case i => k_is); (case t => k_is); (case l2 => k_is); (case o2 => kernel_rfl); (case i2 => k_is); (case t2 => k_is)
   case g_BadTerms | g_NotWide => refine' L2.xgat_mk ?a ?b ?c ?d ?e ?f ?g ?h; (case a => k_is); (case b => k_is); (case c => k_is); (case d => k_is); (case e => k_is); (case f => k_is); (case g => k_is); (case h => k_is)
   case qv_BadTerms | q_BadTerms_RoadError | q_BadTerms_BadTerms | q_BadTerms_NotWide | qv_NotWide | q_NotWide_RoadError | q_NotWide_BadTerms | q_NotWide_NotWide => kit_is
   case m_BadTerms_RoadError | m_BadTerms_BadTerms | m_BadTerms_NotWide | m_NotWide_RoadError | m_NotWide_BadTerms | m_NotWide_NotWide => refine' (show PySem.W.mroIn _ _ _ = _ from ?a); (case a => k_is)
   case x_NotWide => refine' ⟨_, L2.xcat_mk KX G ?a ?l ?o ?i ?t ?l2 ?o2 ?i2 ?t2⟩; (case a => k_is); (case l => k_is); (case o => kernel_rfl); (case i => k_is); (case t => k_is); (case l2 => k_is); (case o2 => kernel_rfl); (case i2 => k_is); (case t2 => k_is)
   case kp_NotWide => k_is
   case xf_NotWide_least => refine' ⟨?a, ?b⟩; (case a => k_is); (case b => k_is)
   case d_is_from | d_has_whole_copy | d_fairness | d_last_turn_of | d_things_of | d_things_at_most | d_reckoned | d_need | d_are_rooms | d_are_waits | d__law_whole | d__law_cell_at | d__law_is_row | d__law_digit | d__law_any_text | d__law_any_deeds | d__law_any_wishes | d__law_any_measures | d__law_any_roads | d__law_mixed | d__law_deeds | d__law_fair | d__law_wish | d_law => refine' L2.defat_mk KX G ?a ?l ?c ?k; (case a => k_is); (case l => k_is); (case c => k_is); (case k => k_is)
   case d_NotWide___init__ | d_Terms___init__ => refine' L2.methat_mk ?a ?i ?l ?c ?k; (case a => k_is); (case i => k_is); (case l => k_is); (case c => k_is); (case k => k_is)
   case b_all | b_any | b_bool | b_enumerate | b_int | b_isinstance | b_len | b_list | b_max | b_range | b_sum | b_tuple | b_zip => refine' PySem.W.mg_none_of KX G ?a; (case a => k_is)
   case c_SIGNS_MOST | c_THINGS_OF_BEGIN | c_RING_MOST | c_ROOM_MOST | c_LAG_MOST | c_WAIT_LEAST | c_WAIT_MOST => refine' ⟨_, PySem.W.mg_of KX G ?a, ?r⟩; (case a => k_is); (case r => exact ⟨_, rfl⟩)
#print axioms PySem.Challenge.cw_slowroad_k72_reckoned_holds
