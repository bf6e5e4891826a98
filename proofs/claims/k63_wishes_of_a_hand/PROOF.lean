import PyProof.Rows.All
import Wide.All
import OpenK.AllK
import Wide.FinOn
import PyProof.EqAt
import PyProof.EqKinds
import PyProof.TupleCall
import PyProof.NeKinds
import PyProof.Rows.BitMore
import PyProof.FitsBits
import PyProof.Rows.TupAssign
import PyProof.ListRange
import PyProof.Rows.ZipGen
import PyProof.StationsW
import PyProof.ExcInit
import PyProof.ExcClass2
import PyProof.RulesTry
import PyProof.ExcBaseAll.ValueError
import PyProof.InstStoreFacts
import PyProof.RulesAs
import PyProof.RulesDel
import PyProof.ExcArgs
import KE.KUnpack
import PyProof.Draws
import PyProof.EnumMake
import PyProof.StrLawsIn
import KE.KMinBuiltin
import Lean
import PySem.Challenge.RW_slowroad_k63_wishes_of_a_hand
set_option Elab.async false
set_option linter.all false
set_option compiler.extract_closed false
-- CHANGE: your row's module here, as the last of these rows
set_option maxRecDepth 100000
namespace L2
open PySem PySem.Spec PyProof.Rows
noncomputable abbrev Key := Sum Int Str
noncomputable def keyIs : Key → Value → Bool
 | .inl k, v => Value.isInt k v
 | .inr x, v => Value.isStrOf x v
noncomputable def keyH (w : World) : Key → Int
 | .inl k => hashInt k
 | .inr x => hashStr w x
theorem keyIs_shape : ∀ {k : Key} {v : Value}, keyIs k v = true → (∃ i t, k = Sum.inl i ∧ v = Value.int i t) ∨ (∃ x t, k = Sum.inr x ∧ v = Value.str x t)
 | .inl i, v, h => by
  obtain ⟨t, e⟩ := Value.isInt_shape (k := i) (v := v) h
  exact .inl ⟨i, t, rfl, e⟩
 | .inr x, v, h => by
  obtain ⟨t, e⟩ := Value.isStrOf_shape (x := x) (v := v) h
  exact .inr ⟨x, t, rfl, e⟩
theorem keyIs_int (i : Int) (t : Tok) : keyIs (.inl i) (.int i t) = true := by simp [keyIs, Value.isInt]
theorem keyIs_str (x : Str) (t : Tok) : keyIs (.inr x) (.str x t) = true := by simp [keyIs, Value.isStrOf]
theorem key_ll (a b : Int) : decide ((Sum.inl a : Key) = Sum.inl b) = (a == b) := by
 by_cases e : a = b
 ·subst e; simp
 ·have h : ¬ (Sum.inl a : Key) = Sum.inl b := fun q => e (Sum.inl.inj q)
  rw [decide_eq_false h]
  exact (beq_eq_false_iff_ne.mpr e).symm
theorem key_rr (a b : Str) : decide ((Sum.inr a : Key) = Sum.inr b) = decide (a = b) := by
 by_cases e : a = b
 ·subst e; simp
 ·have h : ¬ (Sum.inr a : Key) = Sum.inr b := fun q => e (Sum.inr.inj q)
  rw [decide_eq_false h, decide_eq_false e]
theorem key_lr (a : Int) (b : Str) : decide ((Sum.inl a : Key) = Sum.inr b) = false := decide_eq_false (fun q => nomatch q)
theorem key_rl (a : Str) (b : Int) : decide ((Sum.inr a : Key) = Sum.inl b) = false := decide_eq_false (fun q => nomatch q)
noncomputable def mixKind (prog : Program) (w : World) : PySem.KeyKind prog w Key where
 is := keyIs
 hash := keyH w
 inj := fun v a b ha hb => by
  rcases keyIs_shape ha with ⟨i, t, rfl, rfl⟩ | ⟨x, t, rfl, rfl⟩
  ·rcases keyIs_shape hb with ⟨j, u, rfl, e⟩ | ⟨y, u, rfl, e⟩
   ·injection e with e1 _; rw [e1]
   ·exact nomatch e
  ·rcases keyIs_shape hb with ⟨j, u, rfl, e⟩ | ⟨y, u, rfl, e⟩
   ·exact nomatch e
   ·injection e with e1 _; rw [e1]
 byValue := fun k v h => by
  rcases keyIs_shape h with ⟨i, t, rfl, rfl⟩ | ⟨x, t, rfl, rfl⟩ <;> rfl
 pyHash := fun hv h => by
  rcases keyIs_shape hv with ⟨i, t, rfl, rfl⟩ | ⟨x, t, rfl, rfl⟩
  ·exact wpAny_pyHash_int h
  ·exact wpAny_pyHash_str h
 eqBool := fun hu hv h => by
  rcases keyIs_shape hu with ⟨i, t, rfl, rfl⟩ | ⟨x, t, rfl, rfl⟩
  ·rcases keyIs_shape hv with ⟨j, u, rfl, rfl⟩ | ⟨y, u, rfl, rfl⟩
   ·rw [key_ll] at h; exact wpAny_eqBool_int h
   ·rw [key_lr] at h; exact SeqAt.EqAt.int_str i t y u _ _ _ _ h
  ·rcases keyIs_shape hv with ⟨j, u, rfl, rfl⟩ | ⟨y, u, rfl, rfl⟩
   ·rw [key_rl] at h; exact SeqAt.EqAt.str_int x t j u _ _ _ _ h
   ·rw [key_rr] at h; exact wpAny_eqBool_str h
 «strs» := fun k x t v h => by
  rcases keyIs_shape h with ⟨i, u, rfl, e⟩ | ⟨y, u, rfl, e⟩
  ·exact nomatch e
  ·injection e with e1 _
   subst e1
   cases v <;> rfl
theorem mixKind_int (prog : Program) (w : World) (i : Int) (t : Tok) : (mixKind prog w).is (.inl i) (.int i t) = true := keyIs_int i t
theorem mixKind_str (prog : Program) (w : World) (x : Str) (t : Tok) : (mixKind prog w).is (.inr x) (.str x t) = true := keyIs_str x t
end L2
namespace L2
open PySem PySem.Spec PyProof.Rows
inductive V where
 | non | bl (b : Bool) | int (i : Int) | str (x : Str) | byt (b : Array UInt8) | flt (b : UInt64) | ref (a : Addr) | ty (n : String)
 deriving DecidableEq
noncomputable def RelV : V → Value → Prop
 | .non, u => u = Value.none
 | .bl b, u => u = Value.bool b
 | .int i, u => ∃ t, u = Value.int i t
 | .str x, u => ∃ t, u = Value.str x t
 | .byt b, u => ∃ t, u = Value.bytes b t
 | .flt b, u => ∃ t, u = Value.float b t
 | .ref a, u => u = Value.ref a
 | .ty n, u => u = Value.type n
noncomputable abbrev Vals : List V → List Value → Prop := Paired RelV
theorem Vals.length {xs : List V} {us : List Value} (r : Vals xs us) : xs.length = us.length := Paired.length r
theorem Vals.get : ∀ {xs : List V} {us : List Value} {i : Nat} {x : V}, Vals xs us → xs[i]? = some x → ∃ u, us[i]? = some u ∧ RelV x u
 | _, _, _, _, .nil, e => by simp at e
 | _, _, 0, _, .cons r _, e => by simp at e; subst e; exact ⟨_, rfl, r⟩
 | _, _, i + 1, x, .cons _ t, e => by
  obtain ⟨u, h1, h2⟩ := Vals.get (i := i) (x := x) t (by simpa using e)
  exact ⟨u, by simpa using h1, h2⟩
theorem Vals.set {x : V} {u : Value} (r : RelV x u) : ∀ {xs : List V} {us : List Value} (i : Nat), Vals xs us → Vals (xs.set i x) (us.set i u)
 | _, _, _, .nil => .nil
 | _, _, 0, .cons _ t => .cons r t
 | _, _, i + 1, .cons q t => .cons q (Vals.set r i t)
theorem Vals.append : ∀ {xs ys : List V} {us ws : List Value}, Vals xs us → Vals ys ws → Vals (xs ++ ys) (us ++ ws)
 | _, _, _, _, .nil, s => s
 | _, _, _, _, .cons r t, s => .cons r (Vals.append t s)
theorem Vals.take : ∀ {xs : List V} {us : List Value} (n : Nat), Vals xs us → Vals (xs.take n) (us.take n)
 | _, _, 0, _ => .nil
 | _, _, _ + 1, .nil => .nil
 | _, _, n + 1, .cons r t => .cons r (Vals.take n t)
theorem Vals.drop : ∀ {xs : List V} {us : List Value} (n : Nat), Vals xs us → Vals (xs.drop n) (us.drop n)
 | _, _, 0, r => r
 | _, _, _ + 1, .nil => .nil
 | _, _, n + 1, .cons _ t => Vals.drop n t
noncomputable def RelO : Option V → Option Value → Prop
 | some v, some u => RelV v u
 | none, none => True
 | _, _ => False
noncomputable def KV {κ : Type} : List (κ × V) → List (κ × Value) → Prop := Paired fun (p : κ × V) (q : κ × Value) => p.1 = q.1 ∧ RelV p.2 q.2
noncomputable def kV : Key → V
 | .inl i => .int i
 | .inr x => .str x
inductive HO where
 /-- a list -/
 | lst (xs : List V)
 /-- a tuple (never changes) -/
 | tup (xs : List V)
 /-- a dict whose keys are ints and texts; one whose keys are tuples of ints and texts (the empty one is both) -/
 | dK (kvs : List (Key × V)) | dT (kvs : List (List Key × V))
 /-- a set of ints: its members, its size -/
 | set (S : Int → Bool) (n : Nat)
 /-- an instance of the class at C, its dict at dx, its attributes -/
 | ins (C dx : Addr) (fs : List (Str × V))
 /-- the dict of the instance at x -/
 | own (x : Addr)
 /-- the dict of an exception -/
 | xd (fs : List (Str × V))
 /-- a bound method, f of x -/
 | met (f x : Addr)
 /-- a range object lo, lo + 1, .. below hi -/
 | rng (lo hi : Int)
 /-- a thing that is known to the object (the script; a dict while a loop walks it): read, never written while it is so -/
 | frz (o : Obj) (u : HO)
 /-- a code object's table -/
 | tbl (ps : Array Value)
 /-- any other thing, by what is true of its one object (a def of one's own: SetO a S n := HO.ext fun h => ..) -/
 | ext (φ : Heap → Prop)
noncomputable abbrev Hp := Addr → Option HO
noncomputable def upd (H : Hp) (a : Addr) (o : HO) : Hp := fun b => if b = a then some o else H b
theorem upd_same {H : Hp} {a : Addr} {o : HO} : upd H a o a = some o := by unfold upd; rw [if_pos rfl]
theorem upd_ne {H : Hp} {a b : Addr} {o : HO} (h : b ≠ a) : upd H a o b = H b := by unfold upd; rw [if_neg h]
theorem upd_upd {H : Hp} {a : Addr} {o u : HO} : upd (upd H a o) a u = upd H a u := by
 funext b; unfold upd; split <;> rfl
theorem ne_of {H : Hp} {a b : Addr} {o u : HO} (h : H a = some o) (h' : H b = some u) (d : o ≠ u) : a ≠ b := by
 intro e; subst e; rw [h] at h'; exact d (Option.some.inj h')
theorem ne_of_none {H : Hp} {a b : Addr} {o : HO} (h : H a = some o) (h' : H b = none) : a ≠ b := by
 intro e; subst e; rw [h] at h'; cases h'
section
variable (P : Program) (w : World)
noncomputable def ObjOk (H : Hp) (h : Heap) (a : Addr) : HO → Prop
 | .lst xs => xs.length ≤ sizeLine ∧ ∃ (its : List Value) (n : Nat), Vals xs its ∧ h.get? a = some { cls := .type "list", data := .seq its.toArray n }
 | .tup xs => xs.length ≤ sizeLine ∧ ∃ its : List Value, Vals xs its ∧ IsTup h a its.toArray
 | .dK kvs => kvs.length ≤ sizeLine ∧ (a == sysModules) = false ∧ ∃ vs, KV kvs vs ∧ h.DictOf (mixKind P w) a vs
 | .dT kvs => kvs.length ≤ sizeLine ∧ (a == sysModules) = false ∧ ∃ xs : List (List Key × Addr × Value),
   Paired (fun (p : List Key × V) (q : List Key × Addr × Value) => p.1 = q.1 ∧ H q.2.1 = some (.tup (p.1.map kV)) ∧ RelV p.2 q.2.2) kvs xs ∧
   ∃ o es ep, h.get? a = some o ∧ o.ExactDict ∧ o.data = .dict es ep ∧ es.toList = xs.map (entryOfKey (tupleKind (mixKind P w))) ∧ (xs.map (·.1)).Nodup
 | .set S n => h.SetOf (intKind P w) a S n
 | .ins C dx fs => H dx = some (.own a) ∧ fs.length ≤ 1000 ∧ dx ≠ a ∧ h.get? a = some (PySem.W.instObj C dx) ∧
   ∃ mA, h.Ns1 dx mA ∧ (∀ f, RelO (fs.lookup f) (mA f)) ∧ PySem.Within mA (fs.map (·.1))
 | .own _ => ∃ o, h.get? a = some o
 | .xd fs => ∃ mA, h.Ns1 a mA ∧ ∀ f, RelO (fs.lookup f) (mA f)
 | .rng lo hi => ∃ t u v, h.get? a = some { cls := .type "range", data := .fields #[.int lo t, .int hi u, .int 1 v] }
 | .frz o u => h.get? a = some o ∧ ObjOk H h a u
 | .tbl ps => h.get? a = some { cls := .none, data := .fields ps }
 | .met f x => h.get? a = some (PySem.W.methodObj (.ref f) (.ref x))
 | .ext φ => φ h ∧ (∃ o, h.get? a = some o) ∧ ∀ h1 h2 : Heap, φ h1 → (∀ o, h1.get? a = some o → h2.get? a = some o) → φ h2
noncomputable def HOk (H : Hp) (h : Heap) : Prop := ∀ a o, H a = some o → ObjOk P w H h a o
end
section
variable {P : Program} {w : World} {H H' : Hp} {h h' : Heap} {a : Addr} {o : HO}
theorem ObjOk.lt (x : ObjOk P w H h a o) : a < h.objs.size := by
 cases o with
 | lst xs => obtain ⟨_, _, _, _, e⟩ := x; exact Heap.lt_size e
 | tup xs => obtain ⟨_, _, _, p⟩ := x; exact p.lt
 | dK kvs => obtain ⟨_, _, _, _, o, _, _, e, _⟩ := x; exact Heap.lt_size e
 | dT kvs => obtain ⟨_, _, _, _, o, _, _, e, _⟩ := x; exact Heap.lt_size e
 | set S n => obtain ⟨o, _, _, _, e, _⟩ := x; exact Heap.lt_size e
 | ins C dx fs => obtain ⟨_, _, _, e, _⟩ := x; exact Heap.lt_size e
 | own y => obtain ⟨_, e⟩ := x; exact Heap.lt_size e
 | xd fs => obtain ⟨_, ⟨_, _, _, e, _⟩, _⟩ := x; exact Heap.lt_size e
 | rng lo hi => obtain ⟨_, _, _, e⟩ := x; exact Heap.lt_size e
 | frz ob u => obtain ⟨e, _⟩ := x; exact Heap.lt_size e
 | tbl ps => exact Heap.lt_size (show h.get? a = some _ from x)
 | met f y => exact Heap.lt_size (show h.get? a = some _ from x)
 | ext φ => obtain ⟨_, ⟨_, e⟩, _⟩ := x; exact Heap.lt_size e
theorem Paired.mapP {α β : Type} {F G : α → β → Prop} : ∀ {l₁ : List α} {l₂ : List β}, Paired F l₁ l₂ → (∀ a b, F a b → G a b) → Paired G l₁ l₂
 | _, _, .nil, _ => .nil
 | _, _, .cons r t, f => .cons (f _ _ r) (Paired.mapP t f)
theorem ObjOk.stay (x : ObjOk P w H h a o) (k : ∀ b u, (b = a ∨ H b = some (.own a)) → h.get? b = some u → h'.get? b = some u)
  (ho : ∀ b, H b = some (.own a) → H' b = some (.own a)) (ht : ∀ b xs, H b = some (.tup xs) → H' b = some (.tup xs)) : ObjOk P w H' h' a o := by
 induction o with
 | lst xs => obtain ⟨z, its, n, r, e⟩ := x; exact ⟨z, its, n, r, k _ _ (.inl rfl) e⟩
 | tup xs => obtain ⟨z, its, r, ob, e, c⟩ := x; exact ⟨z, its, r, ob, k _ _ (.inl rfl) e, c⟩
 | dK kvs => obtain ⟨z, y, vs, r, ob, es, ep, e, c⟩ := x; exact ⟨z, y, vs, r, ob, es, ep, k _ _ (.inl rfl) e, c⟩
 | dT kvs =>
  obtain ⟨z, y, xs, r, ob, es, ep, e, c⟩ := x
  exact ⟨z, y, xs, Paired.mapP r fun p q z => ⟨z.1, ht _ _ z.2.1, z.2.2⟩, ob, es, ep, k _ _ (.inl rfl) e, c⟩
 | set S n => obtain ⟨ob, es, ep, t, e, c⟩ := x; exact ⟨ob, es, ep, t, k _ _ (.inl rfl) e, c⟩
 | ins C dx fs =>
  obtain ⟨d, z, ne, e, mA, ⟨od, es, ep, e2, c⟩, r⟩ := x
  exact ⟨ho _ d, z, ne, k _ _ (.inl rfl) e, mA, ⟨od, es, ep, k _ _ (.inr d) e2, c⟩, r⟩
 | own y => obtain ⟨ob, e⟩ := x; exact ⟨ob, k _ _ (.inl rfl) e⟩
 | xd fs => obtain ⟨mA, ⟨od, es, ep, e, c⟩, r⟩ := x; exact ⟨mA, ⟨od, es, ep, k _ _ (.inl rfl) e, c⟩, r⟩
 | rng lo hi => obtain ⟨t, u, v, e⟩ := x; exact ⟨t, u, v, k _ _ (.inl rfl) e⟩
 | frz ob u ih => obtain ⟨e, q⟩ := x; exact ⟨k _ _ (.inl rfl) e, ih q⟩
 | tbl ps =>
  have e : h.get? a = some { cls := .none, data := .fields ps } := x
  show h'.get? a = some { cls := .none, data := .fields ps }
  exact k a _ (.inl rfl) e
 | met f y =>
  have e : h.get? a = some (PySem.W.methodObj (.ref f) (.ref y)) := x
  show h'.get? a = some (PySem.W.methodObj (.ref f) (.ref y))
  exact k a _ (.inl rfl) e
 | ext φ => obtain ⟨p, ⟨o, e⟩, st⟩ := x; exact ⟨st _ _ p fun o q => k _ _ (.inl rfl) q, ⟨o, k _ _ (.inl rfl) e⟩, st⟩
theorem HOk.lt (x : HOk P w H h) (e : H a = some o) : a < h.objs.size := (x a o e).lt
theorem HOk.fresh (x : HOk P w H h) (e : h.objs.size ≤ a) : H a = none := by
 cases q : H a with
 | none => rfl
 | some u => exact absurd (Nat.lt_of_lt_of_le (x.lt q) e) (Nat.lt_irrefl _)
theorem HOk.kept (x : HOk P w H h) (k : ∀ b u, h.get? b = some u → h'.get? b = some u) : HOk P w H h' := fun a o e =>
 (x a o e).stay (fun b u _ q => k b u q) (fun _ q => q) fun _ _ q => q
theorem HOk.laid (x : HOk P w H h) (k : ∀ b u, h.get? b = some u → h'.get? b = some u) (hp : h.objs.size ≤ a) (new : ObjOk P w (upd H a o) h' a o) : HOk P w (upd H a o) h' := fun b u e => by
 have hn := x.fresh hp
 by_cases hb : b = a
 ·subst hb; rw [upd_same] at e; cases e; exact new
 ·rw [upd_ne hb] at e
  exact (x b u e).stay (fun c v _ q => k c v q) (fun c q => by rw [upd_ne (ne_of_none q hn)]; exact q) fun c xs q => by rw [upd_ne (ne_of_none q hn)]; exact q
end
noncomputable def Rd (H : Hp) (a : Addr) (u : HO) : Prop := H a = some u ∨ ∃ o, H a = some (.frz o u)
theorem Rd.ok {P : Program} {w : World} {H : Hp} {h : Heap} {a : Addr} {u : HO} (r : Rd H a u) (x : HOk P w H h) : ObjOk P w H h a u := by
 rcases r with r | ⟨o, r⟩
 ·exact x a u r
 ·obtain ⟨_, q⟩ := x a _ r
  exact q
noncomputable def Mut : Option HO → Prop
 | some (.lst _) => True
 | some (.dK _) => True
 | some (.dT _) => True
 | some (.set _ _) => True
 | some (.ins _ _ _) => True
 | some (.ext _) => True
 | _ => False
section
variable {P : Program} {w : World} {H : Hp} {h h' : Heap} {x e : Addr} {o' : HO}
theorem HOk.write (ok : HOk P w H h) (mu : Mut (H x)) (he : e = x ∨ H e = some (.own x)) (k : ∀ b u, b ≠ e → h.get? b = some u → h'.get? b = some u) (heo : ∃ u, h'.get? e = some u)
  (new : ObjOk P w (upd H x o') h' x o') : HOk P w (upd H x o') h' := fun b u q => by
 have nown : ∀ c y, H c = some (.own y) → c ≠ x := fun c y r z => by subst z; rw [r] at mu; exact mu
 have ntup : ∀ c xs, H c = some (.tup xs) → c ≠ x := fun c xs r z => by subst z; rw [r] at mu; exact mu
 by_cases hb : b = x
 ·subst hb; rw [upd_same] at q; cases q; exact new
 ·rw [upd_ne hb] at q
  by_cases hbe : b = e
  ·have q' : H b = some (.own x) := by
    rcases he with z | z
    ·exact absurd (hbe.trans z) hb
    ·rw [hbe]; exact z
   rw [q] at q'; cases q'
   obtain ⟨v, hv⟩ := heo
   exact ⟨v, by rw [hbe]; exact hv⟩
  ·refine (ok b u q).stay (fun c v hc r => k c v ?_ r) (fun c r => by rw [upd_ne (nown c b r)]; exact r) fun c xs r => by rw [upd_ne (ntup c xs r)]; exact r
   rcases hc with rfl | hc
   ·exact hbe
   ·rintro rfl
    rcases he with z | z
    ·exact nown c b hc z
    ·rw [hc] at z; cases z; exact hb rfl
end
structure Un (fs ex : List Addr) (H H' : Hp) (h h' : Heap) : Prop where
 keep : ∀ b o, h.get? b = some o → H b = none → b ∉ fs → b ∉ ex → h'.get? b = some o
 slot : ∀ b o, h.get? b = some o → H b = none → b ∈ fs → b ∉ ex → ∃ sl, h'.get? b = some { o with slots := sl }
 free : ∀ b o, h.get? b = some o → H b = none → b ∉ ex → H' b = none
 there : ∀ b o, h.get? b = some o → b ∉ ex → ∃ o', h'.get? b = some o'
 tups : ∀ b xs, H b = some (.tup xs) → H' b = some (.tup xs)
 frzs : ∀ b o u, H b = some (.frz o u) → H' b = some (.frz o u)
 tbls : ∀ b ps, H b = some (.tbl ps) → ∃ more, H' b = some (.tbl (ps ++ more))
section
variable {fs fs' ex ex' : List Addr} {H H1 H2 : Hp} {h h1 h2 h' : Heap} {a x e : Addr} {o : HO}
theorem Un.any (u : Un fs ex H H1 h h1) {b : Addr} {ob : Obj} (q : h.get? b = some ob) (n : H b = none) (hx : b ∉ ex) : ∃ sl, h1.get? b = some { ob with slots := sl } := by
 by_cases hb : b ∈ fs
 ·exact u.slot b ob q n hb hx
 ·exact ⟨ob.slots, u.keep b ob q n hb hx⟩
theorem Un.kept (k : ∀ b u, h.get? b = some u → h'.get? b = some u) : Un fs ex H H h h' :=
 ⟨fun b ob q _ _ _ => k b ob q, fun b ob q _ _ _ => ⟨ob.slots, k b ob q⟩, fun _ _ _ n _ => n, fun b ob q _ => ⟨ob, k b ob q⟩, fun _ _ q => q, fun _ _ _ q => q, fun _ ps q => ⟨#[], by rw [q]; simp⟩⟩
theorem Un.refl : Un fs ex H H h h := Un.kept fun _ _ q => q
theorem Un.laid (k : ∀ b u, h.get? b = some u → h'.get? b = some u) (hp : h.objs.size ≤ a) (hn : H a = none) : Un fs ex H (upd H a o) h h' where
 keep := fun b u q _ _ _ => k b u q
 slot := fun b u q _ _ _ => ⟨u.slots, k b u q⟩
 free := fun b u q n _ => by rw [upd_ne (Nat.ne_of_lt (Nat.lt_of_lt_of_le (Heap.lt_size q) hp))]; exact n
 there := fun b u q _ => ⟨u, k b u q⟩
 tups := fun b xs q => by rw [upd_ne (ne_of_none q hn)]; exact q
 frzs := fun b u xs q => by rw [upd_ne (ne_of_none q hn)]; exact q
 tbls := fun b ps q => ⟨#[], by rw [upd_ne (ne_of_none q hn), q]; simp⟩
theorem Un.write (mu : Mut (H x)) (he : e = x ∨ H e = some (.own x)) (k : ∀ b u, b ≠ e → h.get? b = some u → h'.get? b = some u) (heo : ∃ u, h'.get? e = some u) : Un fs ex H (upd H x o) h h' := by
 have hx : ∀ b, H b = none → b ≠ x := fun b n z => by subst z; rw [n] at mu; exact mu
 have hb : ∀ b, H b = none → b ≠ e := fun b n z => by
  subst z
  rcases he with r | r
  ·exact hx b n r
  ·rw [n] at r; cases r
 have hm : ∀ b u, H b = some u → ¬ Mut (some u) → b ≠ x := fun b u q nm z => by subst z; rw [q] at mu; exact nm mu
 refine ⟨fun b u q n _ _ => k b u (hb b n) q, fun b u q n _ _ => ⟨u.slots, k b u (hb b n) q⟩, fun b u q n _ => by rw [upd_ne (hx b n)]; exact n, fun b u q _ => ?_,
  fun b xs q => by rw [upd_ne (hm b _ q fun z => z)]; exact q, fun b u xs q => by rw [upd_ne (hm b _ q fun z => z)]; exact q, fun b ps q => ⟨#[], by rw [upd_ne (hm b _ q fun z => z), q]; simp⟩⟩
 by_cases hbe : b = e
 ·subst hbe; exact heo
 ·exact ⟨u, k b u hbe q⟩
end
noncomputable def trk (h : Heap) (H : Hp) : List Addr := (List.range h.objs.size).filter fun a => (H a).isSome
noncomputable def hidT (h : Heap) (H : Hp) : Heap := PySem.W.hideAll h (trk h H)
theorem hidT_size (h : Heap) (H : Hp) : (hidT h H).objs.size = h.objs.size := PySem.W.hideAll_size _ _
theorem hidT_get {h : Heap} {H : Hp} {b : Addr} {o : Obj} (e : h.get? b = some o) (n : H b = none) : (hidT h H).get? b = some o :=
 PySem.W.hideAll_get _ e fun hm => by
  have q : (H b).isSome = true := (List.mem_filter.mp hm).2
  rw [n] at q; simp at q
theorem of_hidT {h : Heap} {H : Hp} {b : Addr} {o : Obj} (e : (hidT h H).get? b = some o) : h.get? b = some o ∧ H b = none := by
 have e' : h.get? b = some o := PySem.W.of_hideAll (trk h H) e
 refine ⟨e', ?_⟩
 cases q : H b with
 | none => rfl
 | some x =>
  have hm : b ∈ trk h H := List.mem_filter.mpr ⟨List.mem_range.mpr (Heap.lt_size e'), by simp [q]⟩
  have z : (hidT h H).get? b = none := PySem.W.hideAll_none (trk h H) hm
  rw [z] at e; cases e
end L2
namespace L2
open PySem PySem.Spec PyProof.Rows
structure Mod (K : PySem.W.Frag) (mg : Str → Option Value) (base : Heap) : Prop where
 kin : K.In base
 glob : base.Ns mainGlobals mg
 blt : ∃ mb, base.Ns builtinsNs mb ∧ ∀ x : Str, x ≠ "__name__" → mb x = bootBuiltins x
 nolimit : base.NoLimit
structure Cx where
 prog : Program
 w : World
 K : PySem.W.Frag
 mg : Str → Option Value
 base : Heap
 A : Around
 N : List Str
 s₀ : Shared
 H₀ : Hp
 env : Env
 outer : List Env
 stack : List Env
 ex : List Addr
 fn : Str → Bool
 calm : Bool
 pn : List (Addr × Obj)
 xe : Value → Shared → Prop
noncomputable def frs (l : List Env) : List Addr := l.filterMap (·.frame)
noncomputable abbrev Cx.fs (X : Cx) : List Addr := frs X.outer
noncomputable def Vis (sc : Scope) (x : Str) : Prop := sc.names.lookup x = some .local ∨ sc.names.lookup x = some .cell ∨ sc.names.lookup x = some .free
noncomputable def Loc (sc : Scope) (x : Str) : Prop := sc.names.lookup x = some .local ∨ sc.names.lookup x = some .cell
noncomputable def Look (env : Env) (h : Heap) (m : Str → Option Value) (x : Str) (u : Value) : Prop :=
 (env.kindOf x = some .local ∧ m x = some u) ∨ ((env.kindOf x = some .cell ∨ env.kindOf x = some .free) ∧ ∃ c, env.cells.lookup x = some c ∧ h.IsCell c (some u))
structure Cx.Ok (X : Cx) : Prop where
 mod : Mod X.K X.mg X.base
 kind : X.env.scope.kind = .function
 glob : X.env.globals = mainGlobals
 blt : X.env.builtins = builtinsNs
 above : X.s₀.heap.objs.size ≤ X.env.locals
 inj : ∀ x y c, X.env.cells.lookup x = some c → X.env.cells.lookup y = some c → x = y
 has : ∀ x, (X.env.kindOf x = some .cell ∨ X.env.kindOf x = some .free) → ∃ c, X.env.cells.lookup x = some c
 cab : ∀ x c, X.fn x = true → X.env.cells.lookup x = some c → X.s₀.heap.objs.size ≤ c
 hd : X.calm = true → X.A.handled = none
 frames : X.A.frames = some X.stack
 stk : X.stack = X.outer ∨ (X.stack = X.env :: X.outer ∧ X.env.frame = some X.env.locals)
 exf : ∀ b ∈ X.ex, b ≠ X.env.locals ∧ ∀ x c, X.env.cells.lookup x = some c → c ≠ b
 bs : ∀ b o, X.base.get? b = some o → X.s₀.heap.get? b = some o ∧ X.H₀ b = none
 bsz : X.base.objs.size ≤ X.s₀.heap.objs.size
 noex : ∀ b o, X.base.get? b = some o → b ∉ X.ex
 exfs : ∀ b ∈ X.ex, b ∉ X.fs
 funs : X.s₀.heap.FunFrames X.base X.outer
 frf : ∀ b ∈ X.fs, X.H₀ b = none
structure Inv (X : Cx) (pins : List (Addr × Obj)) (σ : List (Option V)) (H : Hp) (s : Shared) : Prop where
 ok : X.Ok
 os : s.os = X.s₀.os
 bare : AllBare s.gens
 base : Un X.fs X.ex X.H₀ H X.s₀.heap s.heap
 loc : ∃ m, s.heap.Ns X.env.locals m ∧ ∀ (i : Nat) (x : Str) (v : V), X.N[i]? = some x → σ[i]? = some (some v) → Vis X.env.scope x → ∃ u, RelV v u ∧ Look X.env s.heap m x u
 cell : ∀ x c, X.env.cells.lookup x = some c → ∃ v, s.heap.IsCell c v
 free : H X.env.locals = none
 freeC : ∀ x c, X.env.cells.lookup x = some c → H c = none
 pin : ∀ p ∈ X.pn ++ pins, s.heap.get? p.1 = some p.2 ∧ H p.1 = none ∧ p.1 ≠ X.env.locals ∧ p.1 ∉ X.fs ∧ ∀ v, p.2.data ≠ .cell v
 hok : HOk X.prog X.w H s.heap
 len : σ.length = X.N.length
section
variable {X : Cx} {pins : List (Addr × Obj)} {σ : List (Option V)} {H H' : Hp} {s : Shared} {h' : Heap}
theorem Cx.Ok.nofr (ok : X.Ok) {b : Addr} {o : Obj} (e : X.base.get? b = some o) : b ∉ X.fs := fun hb => by
 have := (ok.funs.mem hb).1
 rw [e] at this; cases this
theorem Inv.bs (I : Inv X pins σ H s) : ∀ b o, X.base.get? b = some o → s.heap.get? b = some o ∧ H b = none := fun b o e =>
 ⟨I.base.keep b o (I.ok.bs b o e).1 (I.ok.bs b o e).2 (I.ok.nofr e) (I.ok.noex b o e), I.base.free b o (I.ok.bs b o e).1 (I.ok.bs b o e).2 (I.ok.noex b o e)⟩
theorem Inv.bk (I : Inv X pins σ H s) : ∀ b o, X.base.get? b = some o → s.heap.get? b = some o := fun b o e => (I.bs b o e).1
theorem Inv.mod (I : Inv X pins σ H s) : Mod X.K X.mg X.base := I.ok.mod
theorem Inv.kIn (I : Inv X pins σ H s) : X.K.In s.heap := I.ok.mod.kin.keeps I.bk
theorem Inv.lt (I : Inv X pins σ H s) : X.env.locals < s.heap.objs.size := let ⟨_, hn, _⟩ := I.loc; hn.lt
theorem Inv.sz (I : Inv X pins σ H s) : X.s₀.heap.objs.size ≤ s.heap.objs.size := Nat.le_trans I.ok.above (Nat.le_of_lt I.lt)
theorem Inv.nofs (I : Inv X pins σ H s) {a : Addr} (h : s.heap.objs.size ≤ a) : a ∉ X.fs := fun hb => by
 obtain ⟨_, o, ho, _⟩ := I.ok.funs.mem hb
 exact absurd (Nat.lt_of_lt_of_le (Heap.lt_size ho) (Nat.le_trans I.sz h)) (Nat.lt_irrefl _)
theorem Inv.cne (I : Inv X pins σ H s) : ∀ x c, X.env.cells.lookup x = some c → c ≠ X.env.locals := fun x c e z => by
 obtain ⟨v, o, ho, hd⟩ := I.cell x c e
 obtain ⟨m, ⟨o', es, ep, ho', hd', _⟩, _⟩ := I.loc
 rw [z, ho'] at ho; cases ho; rw [hd'] at hd; cases hd
theorem Inv.funs (I : Inv X pins σ H s) : s.heap.FunFrames X.base X.outer := by
 have all : ∀ (l : List Env), (∀ b ∈ frs l, b ∈ X.fs) → X.s₀.heap.FunFrames X.base l → s.heap.FunFrames X.base l := by
  intro l
  induction l with
  | nil => intro _ _; trivial
  | cons env r ih =>
   intro hs hl
   obtain ⟨hk, ⟨L, o, hf, hn, ho, hd⟩, hr⟩ := hl
   have hL : L ∈ X.fs := hs L (by unfold frs; rw [List.filterMap_cons, hf]; exact List.mem_cons_self)
   obtain ⟨sl, e⟩ := I.base.slot L o ho (I.ok.frf L hL) hL fun z => I.ok.exfs L z hL
   exact ⟨hk, ⟨L, _, hf, hn, e, hd⟩, ih (fun b hb => hs b (by unfold frs; rw [List.filterMap_cons, hf]; exact List.mem_cons_of_mem _ hb)) hr⟩
 exact all X.outer (fun _ hb => hb) I.ok.funs
theorem Inv.stack (I : Inv X pins σ H s) : s.heap.FunFrames X.base X.stack := by
 rcases I.ok.stk with e | ⟨e, hf⟩
 ·rw [e]; exact I.funs
 ·rw [e]
  obtain ⟨m, hn, _⟩ := I.loc
  refine .cons (by rw [I.ok.kind]; decide) hf hn ?_ I.funs
  exact Heap.get?_none_of_le (Nat.le_trans I.ok.bsz I.ok.above)
theorem Inv.stkSub (I : Inv X pins σ H s) : ∀ b ∈ frs X.stack, b ∈ X.env.locals :: X.fs := fun b hb => by
 rcases I.ok.stk with e | ⟨e, hf⟩
 ·rw [e] at hb; exact List.mem_cons_of_mem _ hb
 ·rw [e] at hb
  unfold frs at hb
  rw [List.filterMap_cons, hf] at hb
  exact hb
theorem Inv.stkFree (I : Inv X pins σ H s) : ∀ b ∈ frs X.stack, H b = none := fun b hb => by
 rcases List.mem_cons.mp (I.stkSub b hb) with e | hb
 ·rw [e]; exact I.free
 ·obtain ⟨_, o, ho, _⟩ := I.ok.funs.mem hb
  exact I.base.free b o ho (I.ok.frf b hb) fun z => I.ok.exfs b z hb
theorem Inv.step {g' : Array GenState} {t' : Nat} {d' : Drawn} {ch : List Addr} (I : Inv X pins σ H s)
  (hch : ∀ b ∈ ch, (b ∈ X.ex ∨ X.s₀.heap.objs.size ≤ b) ∧ b ≠ X.env.locals ∧ (∀ x c, X.env.cells.lookup x = some c → c ≠ b) ∧ ∀ p ∈ X.pn ++ pins, p.1 ≠ b)
  (keep : ∀ b o, b ≠ X.env.locals → b ∉ X.fs → b ∉ ch → s.heap.get? b = some o → H b = none → h'.get? b = some o)
  (slot : ∀ b o, b ≠ X.env.locals → b ∈ X.fs → b ∉ ch → s.heap.get? b = some o → H b = none → ∃ sl, h'.get? b = some { o with slots := sl }) (free : ∀ b o, b ∉ ch → s.heap.get? b = some o → H b = none → H' b = none)
  (there : ∀ b o, b ∉ ch → s.heap.get? b = some o → ∃ o', h'.get? b = some o')
  (tups : ∀ b xs, H b = some (.tup xs) → H' b = some (.tup xs)) (frzs : ∀ b o u, H b = some (.frz o u) → H' b = some (.frz o u)) (tbls : ∀ b ps, H b = some (.tbl ps) → ∃ more, H' b = some (.tbl (ps ++ more)))
  (ns : ∀ m, s.heap.Ns X.env.locals m → h'.Ns X.env.locals m) (hok : HOk X.prog X.w H' h') (hg : AllBare g') :
  Inv X pins σ H' { s with heap := h', gens := g', drawn := d', toks := t' } := by
 have neL : ∀ b o, X.s₀.heap.get? b = some o → b ≠ X.env.locals := fun b o e => Nat.ne_of_lt (Nat.lt_of_lt_of_le (Heap.lt_size e) I.ok.above)
 have neC : ∀ b o, X.s₀.heap.get? b = some o → b ∉ X.ex → b ∉ ch := fun b o e hx hb => by
  rcases (hch b hb).1 with z | z
  ·exact hx z
  ·exact absurd (Nat.lt_of_lt_of_le (Heap.lt_size e) z) (Nat.lt_irrefl _)
 have cellK : ∀ x c, X.env.cells.lookup x = some c → ∀ v, s.heap.IsCell c v → h'.IsCell c v := fun x c e v ⟨o, ho, hd⟩ => by
  have nch : c ∉ ch := fun z => (hch c z).2.2.1 x c e rfl
  by_cases hc : c ∈ X.fs
  ·obtain ⟨sl, q⟩ := slot c o (I.cne x c e) hc nch ho (I.freeC x c e)
   exact ⟨_, q, hd⟩
  ·exact ⟨o, keep c o (I.cne x c e) hc nch ho (I.freeC x c e), hd⟩
 refine ⟨I.ok, I.os, hg, ⟨fun b o e n hb hx => ?_, fun b o e n hb hx => ?_, fun b o e n hx => ?_, fun b o e hx => ?_, fun b xs e => tups b xs (I.base.tups b xs e), fun b o xs e => frzs b o xs (I.base.frzs b o xs e), fun b ps e => ?_⟩, ?_, fun x c e => ?_, ?_, fun x c e => ?_, fun p hp => ?_, hok, I.len⟩
 ·exact keep b o (neL b o e) hb (neC b o e hx) (I.base.keep b o e n hb hx) (I.base.free b o e n hx)
 ·obtain ⟨sl, e1⟩ := I.base.slot b o e n hb hx
  obtain ⟨sl', e2⟩ := slot b _ (neL b o e) hb (neC b o e hx) e1 (I.base.free b o e n hx)
  exact ⟨sl', e2⟩
 ·obtain ⟨o', e1⟩ := I.base.there b o e hx
  exact free b o' (neC b o e hx) e1 (I.base.free b o e n hx)
 ·obtain ⟨o', e1⟩ := I.base.there b o e hx
  exact there b o' (neC b o e hx) e1
 ·obtain ⟨m1, e1⟩ := I.base.tbls b ps e
  obtain ⟨m2, e2⟩ := tbls b _ e1
  exact ⟨m1 ++ m2, by rw [e2, Array.append_assoc]⟩
 ·obtain ⟨m, hn, hl⟩ := I.loc
  refine ⟨m, ns m hn, fun i x v e1 e2 e3 => ?_⟩
  obtain ⟨u, r, l⟩ := hl i x v e1 e2 e3
  refine ⟨u, r, ?_⟩
  rcases l with l | ⟨k, c, e, z⟩
  ·exact .inl l
  ·exact .inr ⟨k, c, e, cellK x c e _ z⟩
 ·obtain ⟨v, z⟩ := I.cell x c e
  exact ⟨v, cellK x c e v z⟩
 ·obtain ⟨m, ⟨o, _, _, ho, _⟩, _⟩ := I.loc
  exact free _ o (fun z => (hch _ z).2.1 rfl) ho I.free
 ·obtain ⟨v, o, ho, hd⟩ := I.cell x c e
  exact free c o (fun z => (hch c z).2.2.1 x c e rfl) ho (I.freeC x c e)
 ·obtain ⟨e, n, ne, nf, d⟩ := I.pin p hp
  have nch : p.1 ∉ ch := fun z => (hch p.1 z).2.2.2 p hp rfl
  exact ⟨keep p.1 p.2 ne nf nch e n, free p.1 p.2 nch e n, ne, nf, d⟩
theorem Inv.un {t' : Nat} (I : Inv X pins σ H s) (u : Un X.fs [] H H' s.heap h') (hok : HOk X.prog X.w H' h') : Inv X pins σ H' { s with heap := h', toks := t' } := by
 obtain ⟨m, ⟨o, es, ep, ho, r⟩, _⟩ := id I.loc
 obtain ⟨sl, hL⟩ := u.any ho I.free (by simp)
 exact I.step (g' := s.gens) (d' := s.drawn) (ch := []) (fun _ z => nomatch z) (fun b o _ hb _ e n => u.keep b o e n hb (by simp)) (fun b o _ hb _ e n => u.slot b o e n hb (by simp)) (fun b o _ e n => u.free b o e n (by simp)) (fun b o _ e => u.there b o e (by simp)) u.tups u.frzs u.tbls (fun m' hm => by
  obtain ⟨o', es', ep', ho', r'⟩ := hm
  rw [ho] at ho'; cases ho'
  exact ⟨_, es', ep', hL, r'⟩) hok I.bare
theorem Inv.call {g' : Array GenState} {t' : Nat} {d' : Drawn} {ch : List Addr} (I : Inv X pins σ H s) (u : Un (frs X.stack) ch H H' s.heap h') (hok : HOk X.prog X.w H' h') (hg : AllBare g')
  (hch : ∀ b ∈ ch, (b ∈ X.ex ∨ X.s₀.heap.objs.size ≤ b) ∧ b ≠ X.env.locals ∧ (∀ x c, X.env.cells.lookup x = some c → c ≠ b) ∧ ∀ p ∈ X.pn ++ pins, p.1 ≠ b) :
  Inv X pins σ H' { s with heap := h', gens := g', drawn := d', toks := t' } := by
 obtain ⟨m, ⟨o, es, ep, ho, r⟩, _⟩ := id I.loc
 obtain ⟨sl, hL⟩ := u.any ho I.free fun z => (hch _ z).2.1 rfl
 exact I.step (ch := ch) hch (fun b o hL hb hc e n => u.keep b o e n (fun z => (List.mem_cons.mp (I.stkSub b z)).elim hL hb) hc) (fun b o _ _ hc e n => u.any e n hc) (fun b o hc e n => u.free b o e n hc) (fun b o hc e => u.there b o e hc) u.tups u.frzs u.tbls (fun m' hm => by
  obtain ⟨o', es', ep', ho', r'⟩ := hm
  rw [ho] at ho'; cases ho'
  exact ⟨_, es', ep', hL, r'⟩) hok hg
theorem Inv.turned {t' : Nat} {it : Addr} (I : Inv X pins σ H s) (k : ∀ b o, b ≠ it → s.heap.get? b = some o → h'.get? b = some o) (hn : H it = none) (hL : it ≠ X.env.locals)
  (h1 : it ∈ X.ex ∨ X.s₀.heap.objs.size ≤ it) (h2 : ∀ x c, X.env.cells.lookup x = some c → c ≠ it) (h3 : ∀ p ∈ X.pn ++ pins, p.1 ≠ it) : Inv X pins σ H { s with heap := h', toks := t' } := by
 have nit : ∀ b u, H b = some u → b ≠ it := fun b u e z => by rw [z, hn] at e; cases e
 refine I.step (g' := s.gens) (d' := s.drawn) (ch := [it]) (fun b hb => ?_) (fun b o _ _ hc e _ => k b o (fun z => hc (by simp [z])) e) (fun b o _ _ hc e _ => ⟨o.slots, k b o (fun z => hc (by simp [z])) e⟩) (fun _ _ _ _ n => n)
  (fun b o hc e => ⟨o, k b o (fun z => hc (by simp [z])) e⟩) (fun _ _ e => e) (fun _ _ _ e => e) (fun b ps e => ⟨#[], by rw [e]; simp⟩) (fun m hm => ?_) (fun b u e => ?_) I.bare
 ·have e : b = it := by simpa using hb
  subst e
  exact ⟨h1, hL, h2, h3⟩
 ·obtain ⟨o, es, ep, ho, r⟩ := hm
  exact ⟨o, es, ep, k _ o (Ne.symm hL) ho, r⟩
 ·refine (I.hok b u e).stay (fun c v hc q => k c v ?_ q) (fun _ q => q) fun _ _ q => q
  rcases hc with z | z
  ·rw [z]; exact nit b u e
  ·exact nit c _ z
theorem Inv.tok (I : Inv X pins σ H s) (t : Nat) : Inv X pins σ H { s with toks := t } := I.un (h' := s.heap) (t' := t) Un.refl I.hok
theorem Inv.kept {t' : Nat} (I : Inv X pins σ H s) (k : ∀ b u, s.heap.get? b = some u → h'.get? b = some u) : Inv X pins σ H { s with heap := h', toks := t' } := I.un (Un.kept k) (I.hok.kept k)
theorem Inv.laid {a : Addr} {o : HO} {t' : Nat} (I : Inv X pins σ H s) (k : ∀ b u, s.heap.get? b = some u → h'.get? b = some u) (hp : s.heap.objs.size ≤ a) (new : ObjOk X.prog X.w (upd H a o) h' a o) :
  Inv X pins σ (upd H a o) { s with heap := h', toks := t' } := I.un (Un.laid k hp (I.hok.fresh hp)) (I.hok.laid k hp new)
theorem Inv.write {x e : Addr} {o : HO} {t' : Nat} (I : Inv X pins σ H s) (mu : Mut (H x)) (he : e = x ∨ H e = some (.own x)) (k : ∀ b u, b ≠ e → s.heap.get? b = some u → h'.get? b = some u) (heo : ∃ u, h'.get? e = some u)
  (new : ObjOk X.prog X.w (upd H x o) h' x o) : Inv X pins σ (upd H x o) { s with heap := h', toks := t' } := I.un (Un.write mu he k heo) (I.hok.write mu he k heo new)
theorem Inv.pins_of {pins' : List (Addr × Obj)} (I : Inv X pins σ H s) (h : ∀ p ∈ pins', s.heap.get? p.1 = some p.2 ∧ H p.1 = none ∧ p.1 ≠ X.env.locals ∧ p.1 ∉ X.fs ∧ ∀ v, p.2.data ≠ .cell v) : Inv X pins' σ H s :=
 ⟨I.ok, I.os, I.bare, I.base, I.loc, I.cell, I.free, I.freeC, fun p hp => (List.mem_append.mp hp).elim (fun z => I.pin p (List.mem_append_left _ z)) (h p), I.hok, I.len⟩
theorem nodup_ix {N : List Str} (hN : N.Nodup) {i j : Nat} {x : Str} (a : N[i]? = some x) (b : N[j]? = some x) : i = j := by
 obtain ⟨h1, e1⟩ := List.getElem?_eq_some_iff.mp a
 obtain ⟨h2, e2⟩ := List.getElem?_eq_some_iff.mp b
 exact (List.getElem_inj hN).mp (e1.trans e2.symm)
theorem store_ok2 {M : Model} {A : Around} {E : Value → Shared → Prop} {i : Nat} {x : Str} {v : V} {u : Value} {Q : Unit → Shared → Prop} (I : Inv X pins σ H s) (hN : X.N.Nodup) (hi : X.N[i]? = some x) (hx : Loc X.env.scope x) (r : RelV v u)
  (h : ∀ s', Inv X pins (σ.set i (some v)) H s' → (∃ a, Heap.SameBut a s.heap s'.heap ∧ (a = X.env.locals ∨ X.env.cells.lookup x = some a)) → Q () s') (hf : X.fn x = true ∨ X.env.scope.names.lookup x = some .local := by first | exact .inl rfl | exact .inr rfl | assumption) : wpAny M A (storeName X.env x u) Q E s := by
 obtain ⟨m, hn, hl⟩ := id I.loc
 have hcls : (X.env.scope.kind == .class || (X.env.scope.kind == .module && X.env.locals != X.env.globals)) = false := by rw [I.ok.kind]; rfl
 have hiσ : i < σ.length := by rw [I.len]; exact (List.getElem?_eq_some_iff.mp hi).1
 have cne := I.cne
 have tracked : ∀ {a : Addr} {h' : Heap}, (∃ o, s.heap.get? a = some o ∧ H a = none) → Heap.SameBut a s.heap h' → HOk X.prog X.w H h' := fun {a h'} ha hs b ob e => by
  obtain ⟨_, _, hfree⟩ := ha
  refine (I.hok b ob e).stay (fun c w' hc q => (hs.2 c ?_).trans q) (fun _ q => q) fun _ _ q => q
  rintro rfl
  rcases hc with rfl | hc
  ·rw [hfree] at e; cases e
  ·rw [hfree] at hc; cases hc
 rcases hx with hk | hk
 ·refine wpAny_storeName_local hk hn (fun h' hn' hs => ?_) hcls
  obtain ⟨oL, _, _, hoL, _⟩ := id hn
  refine h _ ⟨I.ok, I.os, I.bare, ⟨fun b o e n hb hx => ?_, fun b o e n hb hx => ?_, I.base.free, fun b o e hx => ?_, I.base.tups, I.base.frzs, I.base.tbls⟩, ⟨_, hn', fun j y v' e1 e2 e3 => ?_⟩, fun y c e => ?_, I.free, I.freeC, fun p hp => ?_, tracked ⟨oL, hoL, I.free⟩ hs, by simpa using I.len⟩ ⟨_, hs, .inl rfl⟩
  ·exact (hs.2 b (Nat.ne_of_lt (Nat.lt_of_lt_of_le (Heap.lt_size e) I.ok.above))).trans (I.base.keep b o e n hb hx)
  ·obtain ⟨sl, e1⟩ := I.base.slot b o e n hb hx
   exact ⟨sl, (hs.2 b (Nat.ne_of_lt (Nat.lt_of_lt_of_le (Heap.lt_size e) I.ok.above))).trans e1⟩
  ·obtain ⟨o', e1⟩ := I.base.there b o e hx
   exact ⟨o', (hs.2 b (Nat.ne_of_lt (Nat.lt_of_lt_of_le (Heap.lt_size e) I.ok.above))).trans e1⟩
  ·by_cases hj : j = i
   ·subst hj
    rw [hi] at e1; cases e1
    rw [List.getElem?_set_self hiσ] at e2
    cases e2
    exact ⟨u, r, .inl ⟨hk, by simp⟩⟩
   ·rw [List.getElem?_set_ne (Ne.symm hj)] at e2
    obtain ⟨u', r', q⟩ := hl j y v' e1 e2 e3
    refine ⟨u', r', ?_⟩
    rcases q with ⟨k, e⟩ | ⟨k, c, e, z⟩
    ·refine .inl ⟨k, ?_⟩
     have : y ≠ x := fun e => hj (nodup_ix hN e1 (e ▸ hi))
     simp [this, e]
    ·exact .inr ⟨k, c, e, z.sameBut hs (cne y c e)⟩
  ·obtain ⟨w', z⟩ := I.cell y c e
   exact ⟨w', z.sameBut hs (cne y c e)⟩
  ·obtain ⟨e, n, ne, nf, d⟩ := I.pin p hp
   exact ⟨(hs.2 p.1 ne).trans e, n, ne, nf, d⟩
 ·have hfn : X.fn x = true := by
   rcases hf with z | z
   ·exact z
   ·rw [z] at hk; cases hk
  obtain ⟨c, hc⟩ := I.ok.has x (.inl hk)
  obtain ⟨w', z⟩ := I.cell x c hc
  refine wpAny_storeName_cell I.ok.kind hk hc z (fun h' hc' hs => ?_)
  obtain ⟨oc, hoc, hocd⟩ := id z
  refine h { s with heap := h' } ⟨I.ok, I.os, I.bare, ⟨fun b o e n hb hx => ?_, fun b o e n hb hx => ?_, I.base.free, fun b o e hx => ?_, I.base.tups, I.base.frzs, I.base.tbls⟩, ⟨m, hn.sameBut hs (Ne.symm (cne x c hc)), fun j y v' e1 e2 e3 => ?_⟩, fun y c' e => ?_, I.free, I.freeC, fun p hp => ?_, tracked ⟨oc, hoc, I.freeC x c hc⟩ hs, by simpa using I.len⟩ ⟨c, hs, .inr hc⟩
  ·exact (hs.2 b (Nat.ne_of_lt (Nat.lt_of_lt_of_le (Heap.lt_size e) (I.ok.cab x c hfn hc)))).trans (I.base.keep b o e n hb hx)
  ·obtain ⟨sl, e1⟩ := I.base.slot b o e n hb hx
   exact ⟨sl, (hs.2 b (Nat.ne_of_lt (Nat.lt_of_lt_of_le (Heap.lt_size e) (I.ok.cab x c hfn hc)))).trans e1⟩
  ·obtain ⟨o', e1⟩ := I.base.there b o e hx
   exact ⟨o', (hs.2 b (Nat.ne_of_lt (Nat.lt_of_lt_of_le (Heap.lt_size e) (I.ok.cab x c hfn hc)))).trans e1⟩
  ·by_cases hj : j = i
   ·subst hj
    rw [hi] at e1; cases e1
    rw [List.getElem?_set_self hiσ] at e2
    cases e2
    exact ⟨u, r, .inr ⟨.inl hk, c, hc, hc'⟩⟩
   ·rw [List.getElem?_set_ne (Ne.symm hj)] at e2
    obtain ⟨u', r', q⟩ := hl j y v' e1 e2 e3
    refine ⟨u', r', ?_⟩
    rcases q with q | ⟨k, c', e, z'⟩
    ·exact .inl q
    ·refine .inr ⟨k, c', e, z'.sameBut hs ?_⟩
     rintro rfl
     exact hj (nodup_ix hN e1 (I.ok.inj _ _ _ e hc ▸ hi))
  ·by_cases hcc : c' = c
   ·subst hcc; exact ⟨_, hc'⟩
   ·obtain ⟨w2, z2⟩ := I.cell y c' e
    exact ⟨w2, z2.sameBut hs hcc⟩
  ·obtain ⟨e, n, ne, nf, d⟩ := I.pin p hp
   refine ⟨(hs.2 p.1 ?_).trans e, n, ne, nf, d⟩
   intro q
   rw [q, hoc] at e
   have q' : oc = p.2 := Option.some.inj e
   exact d w' (by rw [← q']; exact hocd)
theorem store_ok {M : Model} {A : Around} {E : Value → Shared → Prop} {i : Nat} {x : Str} {v : V} {u : Value} {Q : Unit → Shared → Prop} (I : Inv X pins σ H s) (hN : X.N.Nodup) (hi : X.N[i]? = some x) (hx : Loc X.env.scope x) (r : RelV v u)
  (h : ∀ s', Inv X pins (σ.set i (some v)) H s' → Q () s') (hf : X.fn x = true ∨ X.env.scope.names.lookup x = some .local := by first | exact .inl rfl | exact .inr rfl | assumption) : wpAny M A (storeName X.env x u) Q E s :=
 store_ok2 I hN hi hx r (fun s' I' _ => h s' I') hf
theorem Inv.call' {s' : Shared} {ch : List Addr} (I : Inv X pins σ H s) (ho : s'.os = s.os) (u : Un (frs X.stack) ch H H' s.heap s'.heap) (hok : HOk X.prog X.w H' s'.heap) (hg : AllBare s'.gens)
  (hch : ∀ b ∈ ch, (b ∈ X.ex ∨ X.s₀.heap.objs.size ≤ b) ∧ b ≠ X.env.locals ∧ (∀ x c, X.env.cells.lookup x = some c → c ≠ b) ∧ ∀ p ∈ X.pn ++ pins, p.1 ≠ b) : Inv X pins σ H' s' := by
 obtain ⟨h', g', d', t', o'⟩ := s'
 have e : o' = s.os := ho
 subst e
 exact I.call (g' := g') (t' := t') (d' := d') u hok hg hch
end
noncomputable abbrev XK := Value → Option Addr → Hp → Prop
noncomputable abbrev St := List (Option V)
noncomputable abbrev VK := V → Hp → Prop
noncomputable abbrev TE := St → Hp → VK → Prop
noncomputable abbrev TT := St → Hp → (Bool → Hp → Prop) → Prop
noncomputable abbrev TA := St → Hp → (List V → Hp → Prop) → Prop
structure Ends where
 nx : St → Hp → Prop
 rt : VK
 bk : St → Hp → Prop := fun _ _ => False
 ct : St → Hp → Prop := fun _ _ => False
noncomputable abbrev TS := Ends → St → Hp → Prop
noncomputable def EP (X : Cx) (pins : List (Addr × Obj)) (σ : St) (Q : VK) (u : Value) (s' : Shared) : Prop := ∃ v H', Inv X pins σ H' s' ∧ RelV v u ∧ Q v H'
noncomputable def TP (X : Cx) (pins : List (Addr × Obj)) (σ : St) (Q : Bool → Hp → Prop) (b : Bool) (s' : Shared) : Prop := ∃ H', Inv X pins σ H' s' ∧ Q b H'
noncomputable def AP (X : Cx) (pins : List (Addr × Obj)) (σ : St) (Q : List V → Hp → Prop) (us : List Value) (s' : Shared) : Prop := ∃ vs H', Inv X pins σ H' s' ∧ Vals vs us ∧ Q vs H'
noncomputable def SP (X : Cx) (pins : List (Addr × Obj)) (D : Ends) (f : Flow) (s' : Shared) : Prop :=
 match f with
 | .next => ∃ σ' H', Inv X pins σ' H' s' ∧ D.nx σ' H'
 | .brk => ∃ σ' H', Inv X pins σ' H' s' ∧ D.bk σ' H'
 | .cont => ∃ σ' H', Inv X pins σ' H' s' ∧ D.ct σ' H'
 | .ret u => ∃ v σ' H', Inv X pins σ' H' s' ∧ RelV v u ∧ D.rt v H'
noncomputable def PE (X : Cx) (e : Expr) (t : TE) : Prop :=
 ∀ (pins : List (Addr × Obj)) (s : Shared) (σ : St) (H : Hp) (Q : VK), Inv X pins σ H s → t σ H Q → wpAny (model X.prog X.w) X.A (eval e X.env) (EP X pins σ Q) X.xe s
noncomputable def PT (X : Cx) (e : Expr) (t : TT) : Prop :=
 ∀ (pins : List (Addr × Obj)) (s : Shared) (σ : St) (H : Hp) (Q : Bool → Hp → Prop), Inv X pins σ H s → t σ H Q → wpAny (model X.prog X.w) X.A (isTrue e X.env (eval e X.env)) (TP X pins σ Q) X.xe s
noncomputable def PW (X : Cx) (e : Expr) (t : TT) : Prop :=
 ∀ (whole : Sem Value) (pins : List (Addr × Obj)) (s : Shared) (σ : St) (H : Hp) (Q : Bool → Hp → Prop), Inv X pins σ H s → t σ H Q → wpAny (model X.prog X.w) X.A (isTrue e X.env whole) (TP X pins σ Q) X.xe s
theorem PW.pt {X : Cx} {e : Expr} {t : TT} (h : PW X e t) : PT X e t := h _
noncomputable def PA (X : Cx) (es : List Expr) (t : TA) : Prop :=
 ∀ (pos : Pos) (pins : List (Addr × Obj)) (s : Shared) (σ : St) (H : Hp) (Q : List V → Hp → Prop), Inv X pins σ H s → t σ H Q → wpAny (model X.prog X.w) X.A (spliced (backTo pos (starEach es X.env))) (AP X pins σ Q) X.xe s
noncomputable def PS (X : Cx) (st : Stmt) (t : TS) : Prop :=
 ∀ (pins : List (Addr × Obj)) (s : Shared) (σ : St) (H : Hp) (D : Ends), Inv X pins σ H s → t D σ H → wpAny (model X.prog X.w) X.A (exec st X.env) (SP X pins D) X.xe s
noncomputable def PSs (X : Cx) (st : List Stmt) (t : TS) : Prop :=
 ∀ (pins : List (Addr × Obj)) (s : Shared) (σ : St) (H : Hp) (D : Ends), Inv X pins σ H s → t D σ H → wpAny (model X.prog X.w) X.A (execs st X.env) (SP X pins D) X.xe s
theorem thn {α : Type} {t : Sem α} {Q Q' : α → Shared → Prop} {M : Model} {A : Around} {E : Value → Shared → Prop} {s : Shared} (h : wpAny M A t Q E s) (hQ : ∀ a s, Q a s → Q' a s) : wpAny M A t Q' E s := wpAny_mono h hQ fun _ _ x => x
end L2
namespace L2
open PySem PySem.Spec PyProof.Rows
section
variable {X : Cx}
noncomputable def tVar (i : Nat) : TE := fun σ H Q => ∃ v, σ[i]? = some (some v) ∧ Q v H
noncomputable def tC (v : V) : TE := fun _ H Q => Q v H
theorem pe_var {i : Nat} {x : Str} {pos : Pos} (hN : X.N[i]? = some x) (hv : Vis X.env.scope x) (hd : (x == ("__debug__" : Str)) = false := by decide) (hcd : (x == ("__classdict__" : Str)) = false := by decide) : PE X (.Name x pos) (tVar i) := by
 intro pins s σ H Q I h
 obtain ⟨v, e, h⟩ := h
 obtain ⟨m, hn, hl⟩ := I.loc
 obtain ⟨u, r, l⟩ := hl i x v hN e hv
 have fin : EP X pins σ Q u s := ⟨v, H, I, r, h⟩
 rcases l with ⟨hk, hm⟩ | ⟨hk, c, hc, hcell⟩
 ·exact wpAny_Name (wpAny_loadName_local I.ok.kind hk hn hm fin) hd
 ·rcases hk with hk | hk
  ·exact wpAny_Name (wpAny_loadName_cell I.ok.kind hk hc hcell fin) hd
  ·exact wpAny_Name (wpAny_loadName_free I.ok.kind hk hc hcell fin hcd) hd
theorem pe_int {i j pos} : PE X (.Constant (.int i) j pos) (tC (.int i)) := fun _ _ _ H _ I h => wpAny_Constant_int ⟨.int i, H, I.tok _, ⟨_, rfl⟩, h⟩
theorem pe_bl {b j pos} : PE X (.Constant (.bool b) j pos) (tC (.bl b)) := fun _ _ _ H _ I h => Constant_bool ⟨.bl b, H, I, rfl, h⟩
theorem pe_non {j pos} : PE X (.Constant .none j pos) (tC .non) := fun _ _ _ H _ I h => Constant_none ⟨.non, H, I, rfl, h⟩
theorem pe_str {x j pos} : PE X (.Constant (.str x) j pos) (tC (.str x)) := fun _ _ _ H _ I h => Calls.Constant_str ⟨.str x, H, I.tok _, ⟨_, rfl⟩, h⟩
noncomputable def Gl (X : Cx) (x : Str) : Prop := X.env.kindOf x = some .globalImplicit
theorem ld_glob {E : Value → Shared → Prop} {pins : List (Addr × Obj)} {s : Shared} {σ : St} {H : Hp} {x : Str} {u : Value} {pos : Pos} {Q : Value → Shared → Prop} (I : Inv X pins σ H s) (hg : Gl X x) (hm : X.mg x = some u) (h : Q u s)
  (hd : (x == ("__debug__" : Str)) = false := by decide) : wpAny (model X.prog X.w) X.A (eval (.Name x pos) X.env) Q E s :=
 Calls.Name_function_global I.ok.kind hg (Calls.loadGlobal_global (by rw [I.ok.glob]; exact I.mod.glob.keeps I.bk) hm h) hd
theorem ld_blt {E : Value → Shared → Prop} {pins : List (Addr × Obj)} {s : Shared} {σ : St} {H : Hp} {x : Str} {u : Value} {pos : Pos} {Q : Value → Shared → Prop} (I : Inv X pins σ H s) (hg : Gl X x) (hm : X.mg x = none) (hv : bootBuiltins x = some u) (h : Q u s)
  (hn : x ≠ "__name__" := by decide) (hd : (x == ("__debug__" : Str)) = false := by decide) : wpAny (model X.prog X.w) X.A (eval (.Name x pos) X.env) Q E s := by
 obtain ⟨mb, h1, h2⟩ := I.mod.blt
 exact Calls.Name_function_global I.ok.kind hg (Calls.loadGlobal_builtin (by rw [I.ok.glob]; exact I.mod.glob.keeps I.bk) hm (by rw [I.ok.blt]; exact h1.keeps I.bk) ((h2 x hn).trans hv) h) hd
theorem pe_glob {x : Str} {v : V} {u : Value} {pos : Pos} (hg : Gl X x) (hm : X.mg x = some u) (r : RelV v u) (hd : (x == ("__debug__" : Str)) = false := by decide) : PE X (.Name x pos) (tC v) :=
 fun _ _ _ H _ I h => ld_glob I hg hm ⟨v, H, I, r, h⟩ hd
theorem pe_bltn {x : Str} {v : V} {u : Value} {pos : Pos} (hg : Gl X x) (hm : X.mg x = none) (hv : bootBuiltins x = some u) (r : RelV v u) (hn : x ≠ "__name__" := by decide) (hd : (x == ("__debug__" : Str)) = false := by decide) : PE X (.Name x pos) (tC v) :=
 fun _ _ _ H _ I h => ld_blt I hg hm hv ⟨v, H, I, r, h⟩ hn hd
variable {a b : Expr} {ta tb : TE} {pos : Pos}
noncomputable def PC (X : Cx) (op : CmpOp) (a b : Expr) (t : TE) : Prop :=
 ∀ (pins : List (Addr × Obj)) (s : Shared) (σ : St) (H : Hp) (Q : VK), Inv X pins σ H s → t σ H Q →
  wpAny (model X.prog X.w) X.A (eval a X.env) (fun v s₁ => wpAny (model X.prog X.w) X.A (eval b X.env) (fun u s₂ => wpAny (model X.prog X.w) X.A (compareOp op v u) (EP X pins σ Q) X.xe s₂) X.xe s₁) X.xe s
noncomputable def tB (t : TE) : TT := fun σ H Q => t σ H fun x H1 => ∃ c, x = .bl c ∧ Q c H1
theorem pt_cmp {op : CmpOp} {t : TE} (h : PC X op a b t) (h1 : behindInMarks op b = false := by first | exact nobehind _ (by decide) (by decide) | rfl) : PT X (.Compare a [op] [b] pos) (tB t) := by
 intro pins s σ H Q I hw
 refine wpAny_isTrue_Compare1 (thn (h pins s σ H _ I hw) fun v s1 h1 => thn h1 fun u s2 h2 => thn h2 fun c s3 ⟨x, H1, I1, r1, q1⟩ => ?_) h1
 obtain ⟨d, rfl, q⟩ := q1
 cases r1
 exact wpAny_truthy_bool ⟨H1, I1, q⟩
theorem pt_val {e : Expr} {t : TE} (h : PE X e t) (he : ∀ whole, isTrue e X.env whole = (do let v ← whole; standAt e.pos; holding [v] (truthy v)) := by intro _; rfl) : PT X e (tB t) := by
 intro pins s σ H Q I hw
 refine isTrue_plain (thn (h pins s σ H _ I hw) fun v s1 ⟨x, H1, I1, r1, q1⟩ => ?_) (he _)
 obtain ⟨d, rfl, q⟩ := q1
 cases r1
 exact wpAny_truthy_bool ⟨H1, I1, q⟩
variable {tA tB' : TT} {rest : List Expr}
noncomputable def tAnd (t u : TT) : TT := fun σ H Q => t σ H fun c H1 => if c = true then u σ H1 Q else Q false H1
noncomputable def tOr (t u : TT) : TT := fun σ H Q => t σ H fun c H1 => if c = true then Q true H1 else u σ H1 Q
noncomputable def tNot (t : TT) : TT := fun σ H Q => t σ H fun c H1 => Q (!c) H1
theorem pw_and1 (ha : PT X a tA) : PW X (.BoolOp .And [a] pos) tA := by
 intro wh pins s σ H Q I h
 refine isTrue_and (thn (ha pins s σ H Q I h) fun c s1 e => ?_)
 cases c with
 | true => exact isTrue_and_nil e
 | false => exact e
theorem pw_or1 (ha : PT X a tA) : PW X (.BoolOp .Or [a] pos) tA := by
 intro wh pins s σ H Q I h
 refine isTrue_or (thn (ha pins s σ H Q I h) fun c s1 e => ?_)
 cases c with
 | false => exact isTrue_or_nil e
 | true => exact e
theorem pw_and (ha : PT X a tA) (hb : PW X (.BoolOp .And (b :: rest) pos) tB') : PW X (.BoolOp .And (a :: b :: rest) pos) (tAnd tA tB') := by
 intro wh pins s σ H Q I h
 refine isTrue_and (thn (ha pins s σ H _ I h) fun c s1 ⟨H1, I1, q1⟩ => ?_)
 cases c with
 | true => exact hb wh pins s1 σ H1 Q I1 q1
 | false => exact ⟨H1, I1, q1⟩
theorem pw_or (ha : PT X a tA) (hb : PW X (.BoolOp .Or (b :: rest) pos) tB') : PW X (.BoolOp .Or (a :: b :: rest) pos) (tOr tA tB') := by
 intro wh pins s σ H Q I h
 refine isTrue_or (thn (ha pins s σ H _ I h) fun c s1 ⟨H1, I1, q1⟩ => ?_)
 cases c with
 | true => exact ⟨H1, I1, q1⟩
 | false => exact hb wh pins s1 σ H1 Q I1 q1
theorem pt_not (ha : PT X a tA) : PT X (.UnaryOp .Not a pos) (tNot tA) := by
 intro pins s σ H Q I h
 exact isTrue_not (ha pins s σ H (fun c H1 => Q (!c) H1) I h)
noncomputable def tAndV (ta tb : TE) : TE := fun σ H Q => ta σ H fun x H1 => ∃ c, x = .bl c ∧ if c = true then tb σ H1 Q else Q (.bl false) H1
noncomputable def tOrV (ta tb : TE) : TE := fun σ H Q => ta σ H fun x H1 => ∃ c, x = .bl c ∧ if c = true then Q (.bl true) H1 else tb σ H1 Q
noncomputable def tNotV (ta : TE) : TE := fun σ H Q => ta σ H fun x H1 => ∃ c, x = .bl c ∧ Q (.bl (!c)) H1
theorem pe_one {op} {t : TE} (h : PE X a t) : PE X (.BoolOp op [a] pos) t := fun pins s σ H Q I hw => BoolOp_one (h pins s σ H Q I hw)
theorem pe_and (ha : PE X a ta) (hb : PE X (.BoolOp .And (b :: rest) pos) tb) : PE X (.BoolOp .And (a :: b :: rest) pos) (tAndV ta tb) := by
 intro pins s σ H Q I h
 refine BoolOp_and (thn (ha pins s σ H _ I h) fun v s1 ⟨x, H1, I1, r1, q1⟩ => ?_)
 obtain ⟨c, rfl, q1⟩ := q1
 cases r1
 refine wpAny_truthy_bool ?_
 cases c with
 | true => exact hb pins s1 σ H1 Q I1 q1
 | false => exact ⟨.bl false, H1, I1, rfl, q1⟩
theorem pe_not (ha : PE X a ta) : PE X (.UnaryOp .Not a pos) (tNotV ta) := by
 intro pins s σ H Q I h
 refine UnaryOp_ (thn (ha pins s σ H _ I h) fun v s1 ⟨x, H1, I1, r1, q1⟩ => ?_)
 obtain ⟨c, rfl, q1⟩ := q1
 cases r1
 exact not_of (wpAny_truthy_bool ⟨.bl (!c), H1, I1, rfl, q1⟩)
noncomputable def tIf (t : TT) (ta tb : TE) : TE := fun σ H Q => t σ H fun c H1 => if c = true then ta σ H1 Q else tb σ H1 Q
theorem pe_ifExp {c : Expr} (hc : PT X c tA) (ha : PE X a ta) (hb : PE X b tb) : PE X (.IfExp c a b pos) (tIf tA ta tb) := by
 intro pins s σ H Q I h
 refine wpAny_IfExp (thn (hc pins s σ H _ I h) fun d s1 ⟨H1, I1, q1⟩ => ?_)
 cases d with
 | true => exact ha pins s1 σ H1 Q I1 q1
 | false => exact hb pins s1 σ H1 Q I1 q1
end
end L2
namespace L2
open PySem PySem.Spec PyProof.Rows
noncomputable def SqL (K : PySem.W.Frag) (H : Hp) (a : Addr) (xs : List V) : Prop :=
 Rd H a (.lst xs) ∨
  ∃ (o : Obj) (its : Array Value) (n : Nat), K.lookup a = some o ∧ o.cls = .type "list" ∧ o.dict = none ∧ o.data = .seq its n ∧ its.size ≤ sizeLine ∧ Vals xs its.toList
noncomputable def SqT (K : PySem.W.Frag) (H : Hp) (a : Addr) (xs : List V) : Prop :=
 Rd H a (.tup xs) ∨
  ∃ (o : Obj) (its : Array Value) (n : Nat), K.lookup a = some o ∧ o.cls = .type "tuple" ∧ o.data = .seq its n ∧ its.size ≤ sizeLine ∧ Vals xs its.toList
noncomputable def absV : Value → Option V
 | .none => some .non
 | .bool b => some (.bl b)
 | .int i _ => some (.int i)
 | .str x _ => some (.str x)
 | .bytes b _ => some (.byt b)
 | .float b _ => some (.flt b)
 | .ref a => some (.ref a)
 | .type n => some (.ty n)
 | _ => none
theorem RelV.abs {x : V} {u : Value} (r : RelV x u) : absV u = some x := by
 cases x with
 | non => cases r; rfl
 | bl _ => cases r; rfl
 | int _ => obtain ⟨t, rfl⟩ := r; rfl
 | str _ => obtain ⟨t, rfl⟩ := r; rfl
 | byt _ => obtain ⟨t, rfl⟩ := r; rfl
 | flt _ => obtain ⟨t, rfl⟩ := r; rfl
 | ref _ => cases r; rfl
 | ty _ => cases r; rfl
theorem RelV.inj {x y : V} {u : Value} (r : RelV x u) (q : RelV y u) : x = y := Option.some.inj (r.abs.symm.trans q.abs)
theorem Vals.inj : ∀ {xs ys : List V} {us : List Value}, Vals xs us → Vals ys us → xs = ys
 | _, _, _, .nil, .nil => rfl
 | _, _, _, .cons r t, .cons r' t' => by rw [r.inj r', Vals.inj t t']
section
variable {X : Cx} {pins : List (Addr × Obj)} {σ : St} {H : Hp} {s : Shared} {a : Addr} {xs ys : List V}
theorem SqL.of {K : PySem.W.Frag} (h : H a = some (.lst xs)) : SqL K H a xs := .inl (.inl h)
theorem SqT.of {K : PySem.W.Frag} (h : H a = some (.tup xs)) : SqT K H a xs := .inl (.inl h)
theorem Inv.list (I : Inv X pins σ H s) (h : SqL X.K H a xs) : ∃ its : List Value, Vals xs its ∧ PlainL s.heap a its.toArray ∧ xs.length ≤ sizeLine := by
 rcases h with h | ⟨o, its, n, hk, hc, hd, hs, hz, r⟩
 ·obtain ⟨z, its, n, r, e⟩ := h.ok I.hok
  exact ⟨its, r, ⟨_, n, e, rfl, rfl, rfl⟩, z⟩
 ·refine ⟨its.toList, r, ⟨o, n, I.kIn a o hk, hc, hd, by simpa using hs⟩, ?_⟩
  have e := r.length
  simp only [Array.length_toList] at e
  omega
theorem Inv.tuple (I : Inv X pins σ H s) (h : SqT X.K H a xs) : ∃ its : List Value, Vals xs its ∧ IsTup s.heap a its.toArray ∧ xs.length ≤ sizeLine := by
 rcases h with h | ⟨o, its, n, hk, hc, hs, hz, r⟩
 ·obtain ⟨z, its, r, p⟩ := h.ok I.hok
  exact ⟨its, r, p, z⟩
 ·refine ⟨its.toList, r, ⟨o, I.kIn a o hk, hc, n, by simpa using hs⟩, ?_⟩
  have e := r.length
  simp only [Array.length_toList] at e
  omega
theorem Inv.list_inj (I : Inv X pins σ H s) (h : SqL X.K H a xs) (h' : SqL X.K H a ys) : xs = ys := by
 obtain ⟨its, r, ⟨o, n, e, _, _, d⟩, _⟩ := I.list h
 obtain ⟨its', r', ⟨o', n', e', _, _, d'⟩, _⟩ := I.list h'
 rw [e] at e'; cases e'
 rw [d] at d'
 injection d' with d1 _
 have : its = its' := by simpa using congrArg Array.toList d1
 subst this
 exact r.inj r'
theorem Inv.tuple_inj (I : Inv X pins σ H s) (h : SqT X.K H a xs) (h' : SqT X.K H a ys) : xs = ys := by
 obtain ⟨its, r, ⟨o, e, _, n, d⟩, _⟩ := I.tuple h
 obtain ⟨its', r', ⟨o', e', _, n', d'⟩, _⟩ := I.tuple h'
 rw [e] at e'; cases e'
 rw [d] at d'
 injection d' with d1 _
 have : its = its' := by simpa using congrArg Array.toList d1
 subst this
 exact r.inj r'
end
noncomputable abbrev Cx.wish (X : Cx) (E : Value → Shared → Prop) : Cx := { X with xe := E }
noncomputable abbrev Cx.nox (X : Cx) : Cx := X.wish fun _ _ => False
theorem Cx.Ok.wish {X : Cx} (ok : X.Ok) (E : Value → Shared → Prop) : (X.wish E).Ok :=
 ⟨ok.mod, ok.kind, ok.glob, ok.blt, ok.above, ok.inj, ok.has, ok.cab, ok.hd, ok.frames, ok.stk, ok.exf, ok.bs, ok.bsz, ok.noex, ok.exfs, ok.funs, ok.frf⟩
theorem Cx.Ok.unwish {X : Cx} {E : Value → Shared → Prop} (ok : (X.wish E).Ok) : X.Ok :=
 ⟨ok.mod, ok.kind, ok.glob, ok.blt, ok.above, ok.inj, ok.has, ok.cab, ok.hd, ok.frames, ok.stk, ok.exf, ok.bs, ok.bsz, ok.noex, ok.exfs, ok.funs, ok.frf⟩
section
variable {X : Cx} {pins : List (Addr × Obj)} {σ : St} {H : Hp} {s : Shared} {E : Value → Shared → Prop}
theorem Inv.wish (I : Inv X pins σ H s) (E : Value → Shared → Prop) : Inv (X.wish E) pins σ H s := ⟨I.ok.wish E, I.os, I.bare, I.base, I.loc, I.cell, I.free, I.freeC, I.pin, I.hok, I.len⟩
theorem Inv.unwish (I : Inv (X.wish E) pins σ H s) : Inv X pins σ H s := ⟨I.ok.unwish, I.os, I.bare, I.base, I.loc, I.cell, I.free, I.freeC, I.pin, I.hok, I.len⟩
theorem SP.unwish {D : Ends} {f : Flow} {s' : Shared} (h : SP (X.wish E) pins D f s') : SP X pins D f s' := by
 cases f with
 | next => obtain ⟨σ', H', I, q⟩ := h; exact ⟨σ', H', I.unwish, q⟩
 | brk => obtain ⟨σ', H', I, q⟩ := h; exact ⟨σ', H', I.unwish, q⟩
 | cont => obtain ⟨σ', H', I, q⟩ := h; exact ⟨σ', H', I.unwish, q⟩
 | ret u => obtain ⟨v, σ', H', I, r, q⟩ := h; exact ⟨v, σ', H', I.unwish, r, q⟩
theorem PT.nox {e : Expr} {t : TT} (h : PT X.nox e t) : PT X e t := fun pins s σ H Q I hw =>
 wpAny_mono (h pins s σ H Q (I.wish _) hw) (fun _ _ ⟨H', I', q⟩ => ⟨H', I'.unwish, q⟩) fun _ _ z => False.elim z
theorem PSs.nox {st : List Stmt} {t : TS} (h : PSs X.nox st t) : PSs X st t := fun pins s σ H D I hw =>
 wpAny_mono (h pins s σ H D (I.wish _) hw) (fun _ _ q => q.unwish) fun _ _ z => False.elim z
end
section
variable {X : Cx} {st : Stmt} {rest : List Stmt} {t u : TS} {e : Expr} {te : TE} {pos : Pos}
noncomputable def tNext : TS := fun D σ H => D.nx σ H
noncomputable def tSeq (t u : TS) : TS := fun D σ H => t { D with nx := u D } σ H
theorem pss_nil : PSs X [] tNext := fun _ _ σ H _ I h => wpAny_execs_nil ⟨σ, H, I, h⟩
theorem pss_cons (h1 : PS X st t) (h2 : PSs X rest u) : PSs X (st :: rest) (tSeq t u) := by
 intro pins s σ H D I h
 refine wpAny_execs_cons (thn (h1 pins s σ H { D with nx := u D } I h) fun f s1 q => ?_)
 cases f with
 | next =>
  obtain ⟨σ', H', I', q⟩ := q
  exact h2 pins s1 σ' H' D I' q
 | ret v => exact q
 | brk => exact q
 | cont => exact q
theorem pss_one (h1 : PS X st t) : PSs X [st] t := by
 intro pins s σ H D I h
 refine wpAny_execs_cons (thn (h1 pins s σ H D I h) fun f s1 q => ?_)
 cases f with
 | next => exact wpAny_execs_nil q
 | ret v => exact q
 | brk => exact q
 | cont => exact q
noncomputable def tBreak : TS := fun D σ H => D.bk σ H
noncomputable def tCont : TS := fun D σ H => D.ct σ H
theorem Inv.quiet {pins : List (Addr × Obj)} {σ : St} {H : Hp} {s : Shared} (I : Inv X pins σ H s) : interactive X.env = false := by simp [interactive, I.ok.kind]
noncomputable def tDrop (te : TE) : TS := fun D σ H => te σ H fun _ H1 => D.nx σ H1
theorem ps_expr (he : PE X e te) (hs : swapsWith e none pos.line X.env = pure false := by rfl) : PS X (.Expr e pos) (tDrop te) := by
 intro pins s σ H D I h
 exact wpAny_Expr_any (thn (he pins s σ H _ I h) fun v s1 ⟨x, H1, I1, r1, q1⟩ => ⟨σ, H1, I1, q1⟩) I.quiet hs
noncomputable def tRet (te : TE) : TS := fun D σ H => te σ H D.rt
theorem ps_ret (he : PE X e te) : PS X (.Return (some e) pos) (tRet te) := by
 intro pins s σ H D I h
 exact wpAny_Return_some (thn (he pins s σ H _ I h) fun v s1 ⟨x, H1, I1, r1, q1⟩ => ⟨x, σ, H1, I1, r1, q1⟩)
noncomputable def tRetN : TS := fun D _ H => D.rt .non H
noncomputable def tIfS (c : TT) (t u : TS) : TS := fun D σ H => c σ H fun b H1 => if b = true then t D σ H1 else u D σ H1
theorem ps_if {c : Expr} {a b : List Stmt} {tc : TT} (hc : PT X c tc) (ha : PSs X a t) (hb : PSs X b u) : PS X (.If c a b pos) (tIfS tc t u) := by
 intro pins s σ H D I h
 refine wpAny_If (thn (hc pins s σ H _ I h) fun d s1 ⟨H1, I1, q1⟩ => ?_)
 cases d with
 | true => exact ha pins s1 σ H1 D I1 q1
 | false => exact hb pins s1 σ H1 D I1 q1
end
noncomputable abbrev TG := V → St → Hp → (St → Hp → Prop) → Prop
noncomputable abbrev TGs := List V → St → Hp → (St → Hp → Prop) → Prop
noncomputable def PG (X : Cx) (target : Expr) (t : TG) : Prop :=
 ∀ (pins : List (Addr × Obj)) (s : Shared) (σ : St) (H : Hp) (v : V) (u : Value) (Q : St → Hp → Prop), Inv X pins σ H s → RelV v u → t v σ H Q →
  wpAny (model X.prog X.w) X.A (assign target X.env u) (fun _ s' => ∃ σ' H', Inv X pins σ' H' s' ∧ Q σ' H') X.xe s
noncomputable abbrev TSet := V → V → V → Hp → (Hp → Prop) → Prop
noncomputable def PSet (X : Cx) (t : TSet) : Prop :=
 ∀ (pins : List (Addr × Obj)) (s : Shared) (σ : St) (H : Hp) (o i v : V) (ov iv u : Value) (Q : Hp → Prop), Inv X pins σ H s → RelV o ov → RelV i iv → RelV v u → t o i v H Q →
  wpAny (model X.prog X.w) X.A (setItem ov iv u) (fun _ s' => ∃ H', Inv X pins σ H' s' ∧ Q H') X.xe s
noncomputable abbrev TIp := V → V → Hp → VK → Prop
section
variable {X : Cx} {pos : Pos}
noncomputable def gName (i : Nat) : TG := fun v σ H Q => Q (σ.set i (some v)) H
theorem pg_name {i : Nat} {x : Str} (hN : X.N.Nodup) (hi : X.N[i]? = some x) (hx : Loc X.env.scope x) (hf : X.fn x = true ∨ X.env.scope.names.lookup x = some .local := by first | exact .inl rfl | exact .inr rfl | assumption) : PG X (.Name x pos) (gName i) := by
 intro pins s σ H v u Q I r h
 exact wpAny_assign_Name (store_ok I hN hi hx r (fun s' I' => ⟨_, H, I', h⟩) hf)
noncomputable def gNil : TGs := fun vs σ H Q => vs = [] ∧ Q σ H
noncomputable def gCons (t : TG) (u : TGs) : TGs := fun vs σ H Q => ∃ v r, vs = v :: r ∧ t v σ H fun σ' H' => u r σ' H' Q
noncomputable def gTup (K : PySem.W.Frag) (n : Nat) (t : TGs) : TG := fun v σ H Q => ∃ a xs, v = .ref a ∧ SqT K H a xs ∧ xs.length = n ∧ t xs σ H Q
noncomputable def gSub (to ti : TE) (t : TSet) : TG := fun v σ H Q => to σ H fun o H1 => ti σ H1 fun i H2 => t o i v H2 fun H3 => Q σ H3
theorem pg_sub {o i : Expr} {to ti : TE} {t : TSet} (ho : PE X o to) (hi : PE X i ti) (hs : PSet X t)
  (ha : ∀ v, assign (.Subscript o i pos) X.env v = (do
   let ov ← holding [v] (eval o X.env)
   let iv ← holding [v, ov] (eval i X.env)
   standAt pos
   holding [v, ov, iv] (setItem ov iv v)
   release [v, ov, iv] []) := by intro _; rfl) : PG X (.Subscript o i pos) (gSub to ti t) := by
 intro pins s σ H v u Q I r h
 rw [ha]
 refine wpAny_bind (wpAny_holding (thn (ho pins s σ H _ I h) fun ov s1 ⟨x, H1, I1, r1, q1⟩ => ?_))
 refine wpAny_bind (wpAny_holding (thn (hi pins s1 σ H1 _ I1 q1) fun iv s2 ⟨y, H2, I2, r2, q2⟩ => ?_))
 refine wpAny_bind (wpAny_standAt (wpAny_bind (wpAny_holding (thn (hs pins s2 σ H2 x y v ov iv u _ I2 r1 r2 r q2) fun _ s3 ⟨H3, I3, q3⟩ => ?_))))
 exact wpAny_release ⟨σ, H3, I3, q3⟩
noncomputable def tAsg (te : TE) (g : TG) : TS := fun D σ H => te σ H fun x H1 => g x σ H1 D.nx
theorem ps_asg {tg e : Expr} {te : TE} {g : TG} (he : PE X e te) (hg : PG X tg g) (hs : swapsWithSole [tg] e pos.line X.env = pure false := by rfl) (hw : swappedStores [tg] e X.env = pure none := by rfl)
  (h1 : (assignEach [tg] X.env).map (·.2) = [assign tg X.env] := by rfl) : PS X (.Assign [tg] e pos) (tAsg te g) := by
 intro pins s σ H D I h
 refine wpAny_Assign_stores (thn (he pins s σ H _ I h) fun v s1 ⟨x, H1, I1, r1, q1⟩ => ?_) hs hw
 rw [h1]
 exact thn (hg pins s1 σ H1 x v _ I1 r1 q1) fun _ s2 q => q
theorem ps_set {i : Nat} {x : Str} {e : Expr} {te : TE} {pos' : Pos} (hN : X.N.Nodup) (hi : X.N[i]? = some x) (hx : Loc X.env.scope x) (he : PE X e te) (hs : swapsWith e (some (.Name x pos')) pos.line X.env = pure false := by rfl) (hf : X.fn x = true ∨ X.env.scope.names.lookup x = some .local := by first | exact .inl rfl | exact .inr rfl | assumption) :
  PS X (.Assign [.Name x pos'] e pos) (tAsg te (gName i)) := by
 intro pins s σ H D I h
 refine wpAny_Assign_Name (thn (he pins s σ H _ I h) fun v s1 ⟨y, H1, I1, r1, q1⟩ => ?_) hs
 exact store_ok I1 hN hi hx r1 (fun s2 I2 => ⟨_, H1, I2, q1⟩) hf
noncomputable def tAug (i : Nat) (te : TE) (ti : TIp) : TS := fun D σ H => ∃ x, σ[i]? = some (some x) ∧ te σ H fun y H1 => ti x y H1 fun z H2 => D.nx (σ.set i (some z)) H2
end
section
variable {X : Cx} {pos : Pos}
end
structure It where
 go : Nat → Hp → Prop
 yld : Nat → Hp → V → Hp → Prop
 stop : Nat → Hp → Prop
noncomputable def FpOk (X : Cx) (pins : List (Addr × Obj)) (H : Hp) (b : Addr) : Prop :=
 H b = none ∧ b ≠ X.env.locals ∧ b ∉ X.fs ∧ (b ∈ X.ex ∨ X.s₀.heap.objs.size ≤ b) ∧ (∀ x c, X.env.cells.lookup x = some c → c ≠ b) ∧ ∀ p ∈ X.pn ++ pins, p.1 ≠ b
theorem Inv.fpOk {X : Cx} {pins : List (Addr × Obj)} {σ : St} {H H' : Hp} {s : Shared} {b : Addr} (I : Inv X pins σ H s) (hb : s.heap.objs.size ≤ b) (hn : H' b = none) : FpOk X pins H' b := by
 refine ⟨hn, Nat.ne_of_gt (Nat.lt_of_lt_of_le I.lt hb), I.nofs hb, .inr (Nat.le_trans I.sz hb), fun x c e z => ?_, fun p hp z => ?_⟩
 ·obtain ⟨v, q⟩ := I.cell x c e
  exact absurd (Nat.lt_of_lt_of_le q.lt (by rw [z]; exact hb)) (Nat.lt_irrefl _)
 ·exact absurd (Nat.lt_of_lt_of_le (Heap.lt_size (I.pin p hp).1) (by rw [z]; exact hb)) (Nat.lt_irrefl _)
structure Turn (P : Program) (w : World) (K : PySem.W.Frag) (tg : Expr) (J : It) (fp : List Addr) (it : Addr) (tn : Nat → Heap → Prop) : Prop where
 mem : it ∈ fp
 obj : ∀ i h, tn i h → ∀ b ∈ fp, ∃ o, h.get? b = some o ∧ ∀ v, o.data ≠ .cell v
 keep : ∀ i h h', tn i h → (∀ b ∈ fp, ∀ o, h.get? b = some o → h'.get? b = some o) → tn i h'
 item : ∀ (X : Cx), X.prog = P → X.w = w → X.K = K → X.calm = true → ∀ (i : Nat) (pins : List (Addr × Obj)) (s : Shared) (σ : St) (H : Hp) (E : Value → Shared → Prop), Inv X pins σ H s → (∀ b ∈ fp, FpOk X pins H b) → tn i s.heap → J.go i H →
  wpAny (model P w) X.A (pyNext (.ref it)) (fun r s1 => ∃ u, r = some u ∧
   wpAny (model P w) X.A (letOwnedTupleGo tg (.ref it) u) (fun _ s2 => ∃ x H', Inv X pins σ H' s2 ∧ RelV x u ∧ J.yld i H x H' ∧ tn (i + 1) s2.heap ∧ ∀ b ∈ fp, H' b = none) E s1) E s
 done : ∀ (X : Cx), X.prog = P → X.w = w → X.K = K → X.calm = true → ∀ (i : Nat) (pins : List (Addr × Obj)) (s : Shared) (σ : St) (H : Hp) (E : Value → Shared → Prop), Inv X pins σ H s → (∀ b ∈ fp, FpOk X pins H b) → tn i s.heap → J.stop i H →
  wpAny (model P w) X.A (pyNext (.ref it)) (fun r s1 => r = none ∧ Inv X pins σ H s1) E s
 self : ∀ (A : Around) (i : Nat) (s : Shared) (Q : Value → Shared → Prop) (E : Value → Shared → Prop), tn i s.heap → Q (.ref it) s → wpAny (model P w) A (pyIter (.ref it)) Q E s
noncomputable abbrev TI := St → Hp → (It → Hp → Prop) → Prop
noncomputable def PIE (X : Cx) (pins : List (Addr × Obj)) (σ : St) (tg : Expr) (R : It → Hp → Prop) (itv : Value) (s2 : Shared) : Prop :=
 ∃ (it : Addr) (fp : List Addr) (tn : Nat → Heap → Prop) (J : It) (H' : Hp), itv = .ref it ∧ Inv X pins σ H' s2 ∧ Turn X.prog X.w X.K tg J fp it tn ∧ tn 0 s2.heap ∧ (∀ b ∈ fp, FpOk X pins H' b) ∧ R J H'
noncomputable def PI (X : Cx) (tg iter : Expr) (wi : TI) : Prop :=
 ∀ (pins : List (Addr × Obj)) (s : Shared) (σ : St) (H : Hp) (R : It → Hp → Prop), Inv X pins σ H s → wi σ H R →
  wpAny (model X.prog X.w) X.A (eval iter X.env) (fun v s1 => wpAny (model X.prog X.w) X.A (pyIter v) (PIE X pins σ tg R) X.xe s1) X.xe s
theorem go_of {M : Model} {A : Around} {E : Value → Shared → Prop} {s : Shared} {tg : Expr} {it : Addr} {u : Value} {o : Obj} {n : String} {vs : Array Value} {Q : Unit → Shared → Prop} (ho : s.heap.get? it = some o) (hc : o.cls = .type n) (hd : o.data = .fields vs)
    (hn : ["enumerate", "zip", "dict_itemiterator", "dict_reverseitemiterator", "odict_iterator", "itertools.zip_longest", "itertools.pairwise"].contains n = false) (hQ : Q () s) : wpAny M A (letOwnedTupleGo tg (.ref it) u) Q E s := by
  unfold letOwnedTupleGo
  cases tg <;> first
    | exact wpAny_pure hQ
    | (cases u <;> first
        | exact wpAny_pure hQ
        | (refine wpAny_bind (wpAny_load ho ?_)
           rw [hc, hd]
           show wpAny M A (if (["enumerate", "zip", "dict_itemiterator", "dict_reverseitemiterator", "odict_iterator", "itertools.zip_longest", "itertools.pairwise"].contains n && vs[0]? == some (rawInt _)) = true then _ else _) Q E s
           rw [if_neg (by intro h; rw [hn, Bool.false_and] at h; cases h)]
           exact wpAny_pure hQ))
noncomputable def Itl (K : PySem.W.Frag) (a : Addr) : It :=
 ⟨fun i H => ∃ xs x, SqL K H a xs ∧ xs[i]? = some x, fun i H x H' => H' = H ∧ ∀ xs, SqL K H a xs → xs[i]? = some x, fun i H => ∃ xs, SqL K H a xs ∧ xs.length ≤ i⟩
noncomputable def Itt (K : PySem.W.Frag) (a : Addr) : It :=
 ⟨fun i H => ∃ xs x, SqT K H a xs ∧ xs[i]? = some x, fun i H x H' => H' = H ∧ ∀ xs, SqT K H a xs → xs[i]? = some x, fun i H => ∃ xs, SqT K H a xs ∧ xs.length ≤ i⟩
noncomputable def Itr (lo : Int) (n : Nat) : It := ⟨fun i _ => i < n, fun i H x H' => H' = H ∧ x = .int (lo + i), fun i _ => n ≤ i⟩
theorem turn_list {P : Program} {w : World} {K : PySem.W.Frag} {tg : Expr} (a it : Addr) : Turn P w K tg (Itl K a) [it] it (fun i h => h.IsListIter it a i) where
 mem := by simp
 obj := fun i h st b hb => by
  have e : b = it := by simpa using hb
  subst e
  obtain ⟨o, e, c, d⟩ := st
  exact ⟨o, e, fun v z => by rw [d] at z; cases z⟩
 keep := fun i h h' st k => st.at fun o e => k it (by simp) o e
 item := by
  intro X hP hw hK hc i pins s σ H E I hf st hg
  subst hP hw hK
  obtain ⟨xs, x, hq, hx⟩ := hg
  obtain ⟨its, rv, p, hz⟩ := I.list hq
  obtain ⟨u, hu, ru⟩ := rv.get hx
  obtain ⟨f0, f1, f2, f3, f4, f5⟩ := hf it (by simp)
  refine wpAny_pyNext_list_item st p.isList (x := u) (by simpa using hu) fun h' st' sb => ?_
  have I1 : Inv X pins σ H { s with heap := h' } := I.turned (t' := s.toks) (fun b o hb e => (sb.2 b hb).trans e) f0 f1 f3 f4 f5
  obtain ⟨o, e, c, d⟩ := id st'
  exact ⟨u, rfl, go_of (s := { s with heap := h' }) e c d (by decide) ⟨x, H, I1, ru, ⟨rfl, fun ys hy => by rw [I.list_inj hy hq]; exact hx⟩, st', fun b hb => (hf b hb).1⟩⟩
 done := by
  intro X hP hw hK hc i pins s σ H E I hf st hg
  subst hP hw hK
  obtain ⟨xs, hq, hx⟩ := hg
  obtain ⟨its, rv, p, hz⟩ := I.list hq
  obtain ⟨f0, f1, f2, f3, f4, f5⟩ := hf it (by simp)
  have hl := rv.length
  exact wpAny_pyNext_list_end (I.ok.hd hc) st p.isList (by simp; omega) fun h' eb => ⟨rfl, I.turned (t' := s.toks) (fun b o hb e => eb b o hb e) f0 f1 f3 f4 f5⟩
 self := fun _ _ _ _ _ st h => wpAny_pyIter_listiter st h
theorem turn_tuple {P : Program} {w : World} {K : PySem.W.Frag} {tg : Expr} (a it : Addr) : Turn P w K tg (Itt K a) [it] it (fun i h => h.IsTupleIter it a i) where
 mem := by simp
 obj := fun i h st b hb => by
  have e : b = it := by simpa using hb
  subst e
  obtain ⟨o, e, c, d⟩ := st
  exact ⟨o, e, fun v z => by rw [d] at z; cases z⟩
 keep := fun i h h' st k => st.at fun o e => k it (by simp) o e
 item := by
  intro X hP hw hK hc i pins s σ H E I hf st hg
  subst hP hw hK
  obtain ⟨xs, x, hq, hx⟩ := hg
  obtain ⟨its, rv, p, hz⟩ := I.tuple hq
  obtain ⟨u, hu, ru⟩ := rv.get hx
  obtain ⟨f0, f1, f2, f3, f4, f5⟩ := hf it (by simp)
  refine wpAny_pyNext_tuple_item st (show s.heap.IsTuple a its.toArray from p) (x := u) (by simpa using hu) fun h' st' sb => ?_
  have I1 : Inv X pins σ H { s with heap := h' } := I.turned (t' := s.toks) (fun b o hb e => (sb.2 b hb).trans e) f0 f1 f3 f4 f5
  obtain ⟨o, e, c, d⟩ := id st'
  exact ⟨u, rfl, go_of (s := { s with heap := h' }) e c d (by decide) ⟨x, H, I1, ru, ⟨rfl, fun ys hy => by rw [I.tuple_inj hy hq]; exact hx⟩, st', fun b hb => (hf b hb).1⟩⟩
 done := by
  intro X hP hw hK hc i pins s σ H E I hf st hg
  subst hP hw hK
  obtain ⟨xs, hq, hx⟩ := hg
  obtain ⟨its, rv, p, hz⟩ := I.tuple hq
  obtain ⟨f0, f1, f2, f3, f4, f5⟩ := hf it (by simp)
  have hl := rv.length
  exact wpAny_pyNext_tuple_end (I.ok.hd hc) st (show s.heap.IsTuple a its.toArray from p) (by simp; omega) fun h' eb => ⟨rfl, I.turned (t' := s.toks) (fun b o hb e => eb b o hb e) f0 f1 f3 f4 f5⟩
 self := fun _ _ _ _ _ st h => wpAny_pyIter_tupleiter st h
theorem turn_range {P : Program} {w : World} {K : PySem.W.Frag} {tg : Expr} (it : Addr) (lo : Int) (n : Nat) : Turn P w K tg (Itr lo n) [it] it (fun i h => IsRangeIter h it (lo + (i : Nat) * 1) ((n : Int) - (i : Nat)) 1) where
 mem := by simp
 obj := fun i h st b hb => by
  have e : b = it := by simpa using hb
  subst e
  exact ⟨_, st, fun v z => by
   have z' : Data.fields _ = Data.cell v := z
   cases z'⟩
 keep := fun i h h' st k => k it (by simp) _ st
 item := by
  intro X hP hw hK hc i pins s σ H E I hf st hg
  subst hP hw hK
  obtain ⟨f0, f1, f2, f3, f4, f5⟩ := hf it (by simp)
  have W := Walks.range (prog := X.prog) (w := X.w) (I.ok.hd hc) it lo 1 n
  refine W.item i s _ _ hg st fun v h' tk hv st' kk => ?_
  obtain ⟨t, rfl⟩ := hv
  have I1 : Inv X pins σ H { s with heap := h', toks := tk } := I.turned (fun b o hb e => kk b o (by simpa using hb) e) f0 f1 f3 f4 f5
  refine ⟨_, rfl, go_of (s := { s with heap := h', toks := tk }) (n := "range_iterator") st' rfl rfl (by decide) ⟨.int (lo + i), H, I1, ⟨t, ?_⟩, ⟨rfl, rfl⟩, st', fun b hb => (hf b hb).1⟩⟩
  rw [Int.mul_one]
 done := by
  intro X hP hw hK hc i pins s σ H E I hf st hg
  subst hP hw hK
  obtain ⟨f0, f1, f2, f3, f4, f5⟩ := hf it (by simp)
  exact wpAny_pyNext_range_end (I.ok.hd hc) st (by have : n ≤ i := hg; omega) fun h' eb => ⟨rfl, I.turned (t' := s.toks) (fun b o hb e => eb b o hb e) f0 f1 f3 f4 f5⟩
 self := fun _ _ _ _ _ st h => wpAny_pyIter_rangeiter st h
end L2
namespace L2
open PySem PySem.Spec PyProof.Rows
section
variable {X : Cx} {tg : Expr}
theorem range_it {pins : List (Addr × Obj)} {σ : St} {H : Hp} {s : Shared} {R : It → Hp → Prop} {E : Value → Shared → Prop} {lo hi : Int} {t u v : Tok} {tk : Nat} (I : Inv X pins σ H s) (h1 : -(2 ^ 62) ≤ lo) (h2 : lo < 2 ^ 62) (h3 : -(2 ^ 62) ≤ hi) (h4 : hi < 2 ^ 62)
  (q : R (Itr lo (hi - lo).toNat) H) : wpAny (model X.prog X.w) X.A (pyIter (.ref s.heap.objs.size)) (PIE X pins σ tg R) E { s with heap := s.heap.push { cls := .type "range", data := .fields #[.int lo t, .int hi u, .int 1 v] }, toks := tk } := by
 refine wpAny_pyIter_range (IsRange.new ..) (small_one h1 h2 h3 h4) ?_
 have I1 : Inv X pins σ H { s with heap := s.heap.push { cls := .type "range", data := .fields #[.int lo t, .int hi u, .int 1 v] }, toks := tk } := I.kept fun b o e => Heap.get?_push_of_some _ e
 refine ⟨(s.heap.push { cls := .type "range", data := .fields #[.int lo t, .int hi u, .int 1 v] }).objs.size, [(s.heap.push { cls := .type "range", data := .fields #[.int lo t, .int hi u, .int 1 v] }).objs.size], _, _, H, rfl,
  I1.kept (t' := tk) fun b o e => Heap.get?_push_of_some _ e, turn_range _ lo (hi - lo).toNat, ?_, fun b hb => ?_, q⟩
 ·have e1 : lo + ((0 : Nat) : Int) * 1 = lo := by simp
  have e2 : (((hi - lo).toNat : Nat) : Int) - ((0 : Nat) : Int) = Builtin.Range.rangeSize lo hi 1 := by rw [rangeSize_one]; split <;> omega
  show IsRangeIter _ _ (lo + ((0 : Nat) : Int) * 1) ((((hi - lo).toNat : Nat) : Int) - ((0 : Nat) : Int)) 1
  rw [e1, e2]
  exact Heap.get?_push_size _ rfl
 ·have e : b = (s.heap.push { cls := .type "range", data := .fields #[.int lo t, .int hi u, .int 1 v] }).objs.size := by simpa using hb
  subst e
  exact I1.fpOk (Nat.le_refl _) (I1.hok.fresh (Nat.le_refl _))
noncomputable def tFor (wi : TI) (g : TG) (tb : TS) : TS := fun D σ H => wi σ H fun J H1 => ∃ W : Nat → Nat → St → Hp → Prop, (∃ m, W 0 m σ H1) ∧ ∀ i m σ H, W i m σ H →
 (J.stop i H ∧ D.nx σ H) ∨ (J.go i H ∧ ∃ N : St → Hp → Prop, (∀ σ' H', N σ' H' → ∃ m', m' < m ∧ W (i + 1) m' σ' H') ∧ ∀ x H', J.yld i H x H' → g x σ H' fun σ2 H2 => tb { D with nx := N, ct := N, bk := D.nx } σ2 H2)
noncomputable def pinsAt (fp : List Addr) (h : Heap) : List (Addr × Obj) := fp.filterMap fun b => (h.get? b).map fun o => (b, o)
theorem mem_pinsAt {fp : List Addr} {h : Heap} {b : Addr} {o : Obj} (hb : b ∈ fp) (e : h.get? b = some o) : (b, o) ∈ pinsAt fp h := List.mem_filterMap.mpr ⟨b, hb, by rw [e]; rfl⟩
theorem of_pinsAt {fp : List Addr} {h : Heap} {p : Addr × Obj} (hp : p ∈ pinsAt fp h) : p.1 ∈ fp ∧ h.get? p.1 = some p.2 := by
 obtain ⟨b, hb, e⟩ := List.mem_filterMap.mp hp
 cases q : h.get? b with
 | none => rw [q] at e; cases e
 | some o =>
  rw [q] at e
  have e' : (b, o) = p := Option.some.inj e
  subst e'
  exact ⟨hb, q⟩
theorem Inv.pinned {pins : List (Addr × Obj)} {σ : St} {H : Hp} {s : Shared} {fp : List Addr} (I : Inv X pins σ H s) (hf : ∀ b ∈ fp, FpOk X pins H b) (ho : ∀ b ∈ fp, ∃ o, s.heap.get? b = some o ∧ ∀ v, o.data ≠ .cell v) : Inv X (pins ++ pinsAt fp s.heap) σ H s :=
 I.pins_of fun p hp => (List.mem_append.mp hp).elim (fun z => I.pin p (List.mem_append_right _ z)) fun z => by
  obtain ⟨hb, e⟩ := of_pinsAt z
  obtain ⟨f0, f1, f2, _⟩ := hf p.1 hb
  obtain ⟨o, e', d⟩ := ho p.1 hb
  rw [e] at e'; cases e'
  exact ⟨e, f0, f1, f2, d⟩
theorem Inv.unpinned {pins pl : List (Addr × Obj)} {σ : St} {H : Hp} {s : Shared} (I : Inv X (pins ++ pl) σ H s) : Inv X pins σ H s := I.pins_of fun p hp => I.pin p (List.mem_append_right _ (List.mem_append_left _ hp))
theorem ps_for {iter : Expr} {body : List Stmt} {wi : TI} {g : TG} {tb : TS} {pos : Pos} (hp : PassesOwn (model X.prog X.w) X.A X.env X.xe) (hc : X.calm = true) (hi : PI X tg iter wi) (hg : PG X tg g) (hb : PSs X body tb)
  (hs : ∀ x, foldedSetIterable iter X.env x = pure x := by intro _; rfl) : PS X (.For tg iter body [] pos) (tFor wi g tb) := by
 intro pins s σ H D I h
 refine wpAny_For (thn (hi pins s σ H _ I h) fun v s1 h1 => thn h1 fun itv s2 h2 => ?_) hs
 obtain ⟨it, fp, tn, J, H2, e, I2, T, st2, f2, W, ⟨m0, w0⟩, turn⟩ := h2
 subst e
 -- what stays true of the iterator's objects through the loop
 have stat : ∀ {H' : Hp}, (∀ b ∈ fp, H' b = none) → ∀ b ∈ fp, FpOk X pins H' b := fun hn b hb => ⟨hn b hb, (f2 b hb).2⟩
 refine codeAny_forLoop_any (fun n s' => ∃ i σ' H', Inv X pins σ' H' s' ∧ tn i s'.heap ∧ (∀ b ∈ fp, H' b = none) ∧ W i n σ' H') ?_ m0 ⟨0, σ, H2, I2, st2, fun b hb => (f2 b hb).1, w0⟩
 rintro n s3 ⟨i, σ3, H3, I3, st3, fr3, w3⟩
 rcases turn i n σ3 H3 w3 with ⟨stop, qn⟩ | ⟨go, N, hN, step⟩
 ·refine wpAny_passesOwn hp (thn (T.done X rfl rfl rfl hc i pins s3 σ3 H3 X.xe I3 (stat fr3) st3 stop) fun r s4 ⟨hr, I4⟩ => ?_)
  subst hr
  exact wpAny_execs_nil ⟨σ3, H3, I4, qn⟩
 ·refine wpAny_passesOwn hp (thn (T.item X rfl rfl rfl hc i pins s3 σ3 H3 X.xe I3 (stat fr3) st3 go) fun r s4 ⟨u, hr, h4⟩ => ?_)
  subst hr
  refine wpAny_passesOwn hp (thn h4 fun _ s5 ⟨x, H5, I5, r5, y5, st5, fr5⟩ => ?_)
  have I5' := I5.pinned (stat fr5) (T.obj _ _ st5)
  refine wpAny_passesOwn hp (thn (hg _ s5 σ3 H5 x u _ I5' r5 (step x H5 y5)) fun _ s6 ⟨σ6, H6, I6, q6⟩ => ?_)
  refine wpAny_passesOwn hp (thn (hb _ s6 σ6 H6 _ I6 q6) fun f s7 q7 => ?_)
  have again : ∀ {σ7 : St} {H7 : Hp}, Inv X (pins ++ pinsAt fp s5.heap) σ7 H7 s7 → N σ7 H7 → ∃ m, m < n ∧ ∃ i σ' H', Inv X pins σ' H' s7 ∧ tn i s7.heap ∧ (∀ b ∈ fp, H' b = none) ∧ W i m σ' H' := fun {σ7 H7} I7 n7 => by
   obtain ⟨m', hm, w7⟩ := hN σ7 H7 n7
   refine ⟨m', hm, i + 1, σ7, H7, I7.unpinned, T.keep _ _ _ st5 fun b hb o e => (I7.pin (b, o) (List.mem_append_right _ (List.mem_append_right _ (mem_pinsAt hb e)))).1, fun b hb => ?_, w7⟩
   obtain ⟨o, e, d⟩ := T.obj _ _ st5 b hb
   exact (I7.pin (b, o) (List.mem_append_right _ (List.mem_append_right _ (mem_pinsAt hb e)))).2.1
  cases f with
  | next => obtain ⟨σ7, H7, I7, n7⟩ := q7; exact again I7 n7
  | cont => obtain ⟨σ7, H7, I7, n7⟩ := q7; exact again I7 n7
  | brk => obtain ⟨σ7, H7, I7, q7⟩ := q7; exact ⟨σ7, H7, I7.unpinned, q7⟩
  | ret v => obtain ⟨x7, σ7, H7, I7, r7, q7⟩ := q7; exact ⟨x7, σ7, H7, I7.unpinned, r7, q7⟩
end
theorem for_list {K : PySem.W.Frag} {a : Addr} {xs : List V} {g : TG} {tb : TS} {D : Ends} {σ : St} {H : Hp} (Pv : Nat → St → Hp → Prop) (h0 : Pv 0 σ H) (hl : ∀ i σ H, i ≤ xs.length → Pv i σ H → SqL K H a xs)
  (hs : ∀ i x σ H, xs[i]? = some x → Pv i σ H → g x σ H fun σ2 H2 => tb { D with nx := Pv (i + 1), ct := Pv (i + 1), bk := D.nx } σ2 H2) (hd : ∀ σ H, Pv xs.length σ H → D.nx σ H) :
  ∃ W : Nat → Nat → St → Hp → Prop, (∃ m, W 0 m σ H) ∧ ∀ i m σ H, W i m σ H →
   ((Itl K a).stop i H ∧ D.nx σ H) ∨ ((Itl K a).go i H ∧ ∃ N : St → Hp → Prop, (∀ σ' H', N σ' H' → ∃ m', m' < m ∧ W (i + 1) m' σ' H') ∧ ∀ x H', (Itl K a).yld i H x H' → g x σ H' fun σ2 H2 => tb { D with nx := N, ct := N, bk := D.nx } σ2 H2) := by
 refine ⟨fun i m σ H => m = xs.length - i ∧ i ≤ xs.length ∧ Pv i σ H, ⟨xs.length, by simp, Nat.zero_le _, h0⟩, ?_⟩
 rintro i m σ H ⟨rfl, hi, p⟩
 have q := hl i σ H hi p
 by_cases hlt : i < xs.length
 ·refine .inr ⟨⟨xs, xs[i], q, by simp [hlt]⟩, Pv (i + 1), fun σ' H' p' => ⟨xs.length - (i + 1), by omega, rfl, hlt, p'⟩, fun x H' y => ?_⟩
  obtain ⟨e, y⟩ := y
  subst e
  exact hs i x σ _ (y xs q) p
 ·have e : i = xs.length := by omega
  subst e
  exact .inl ⟨⟨xs, q, Nat.le_refl _⟩, hd σ H p⟩
theorem for_range {lo : Int} {n : Nat} {g : TG} {tb : TS} {D : Ends} {σ : St} {H : Hp} (Pv : Nat → St → Hp → Prop) (h0 : Pv 0 σ H)
  (hs : ∀ i σ H, i < n → Pv i σ H → g (.int (lo + i)) σ H fun σ2 H2 => tb { D with nx := Pv (i + 1), ct := Pv (i + 1), bk := D.nx } σ2 H2) (hd : ∀ σ H, Pv n σ H → D.nx σ H) :
  ∃ W : Nat → Nat → St → Hp → Prop, (∃ m, W 0 m σ H) ∧ ∀ i m σ H, W i m σ H →
   ((Itr lo n).stop i H ∧ D.nx σ H) ∨ ((Itr lo n).go i H ∧ ∃ N : St → Hp → Prop, (∀ σ' H', N σ' H' → ∃ m', m' < m ∧ W (i + 1) m' σ' H') ∧ ∀ x H', (Itr lo n).yld i H x H' → g x σ H' fun σ2 H2 => tb { D with nx := N, ct := N, bk := D.nx } σ2 H2) := by
 refine ⟨fun i m σ H => m = n - i ∧ i ≤ n ∧ Pv i σ H, ⟨n, by simp, Nat.zero_le _, h0⟩, ?_⟩
 rintro i m σ H ⟨rfl, hi, p⟩
 by_cases hlt : i < n
 ·refine .inr ⟨hlt, Pv (i + 1), fun σ' H' p' => ⟨n - (i + 1), by omega, rfl, hlt, p'⟩, fun x H' y => ?_⟩
  obtain ⟨e, y⟩ := y
  subst e y
  exact hs i σ _ hlt p
 ·have e : i = n := by omega
  subst e
  exact .inl ⟨Nat.le_refl _, hd σ H p⟩
end L2
namespace L2
open PySem PySem.Spec PyProof.Rows
noncomputable abbrev R2 := V → V → Hp → VK → Prop
noncomputable def OpR (X : Cx) (f : Value → Value → Sem Value) (r : R2) : Prop :=
 ∀ (pins : List (Addr × Obj)) (s : Shared) (σ : St) (H : Hp) (x y : V) (v u : Value) (Q : VK), Inv X pins σ H s → RelV x v → RelV y u → r x y H Q →
  wpAny (model X.prog X.w) X.A (f v u) (EP X pins σ Q) X.xe s
noncomputable def CallR (X : Cx) (f : Value) (r : List V → Hp → VK → Prop) : Prop :=
 ∀ (pins : List (Addr × Obj)) (s : Shared) (σ : St) (H : Hp) (xs : List V) (us : List Value) (Q : VK), Inv X pins σ H s → Vals xs us → r xs H Q →
  wpAny (model X.prog X.w) X.A (call f us) (EP X pins σ Q) X.xe s
noncomputable def tOp (r : R2) (ta tb : TE) : TE := fun σ H Q => ta σ H fun x H1 => tb σ H1 fun y H2 => r x y H2 Q
noncomputable def tUn (r : V → Hp → VK → Prop) (ta : TE) : TE := fun σ H Q => ta σ H fun x H1 => r x H1 Q
noncomputable def rI (C : Int → Int → Prop) (g : Int → Int → V) : R2 := fun x y H Q => ∃ i j, x = .int i ∧ y = .int j ∧ C i j ∧ Q (g i j) H
noncomputable def rI0 (g : Int → Int → V) : R2 := fun x y H Q => ∃ i j, x = .int i ∧ y = .int j ∧ Q (g i j) H
noncomputable def rU (g : Int → V) : V → Hp → VK → Prop := fun x H Q => ∃ i, x = .int i ∧ Q (g i) H
section
variable {X : Cx} {a b c : Expr} {ta tb tc : TE} {pos : Pos}
theorem binT (ha : PE X a ta) (hb : PE X b tb) {pins : List (Addr × Obj)} {s : Shared} {σ : St} {H : Hp} {R : V → V → Hp → Prop} (I : Inv X pins σ H s)
  (h : ta σ H fun x H1 => tb σ H1 fun y H2 => R x y H2) {Q : Value → Shared → Prop} {f : Value → Value → Sem Value}
  (hf : ∀ v u s2 x y H2, Inv X pins σ H2 s2 → RelV x v → RelV y u → R x y H2 → wpAny (model X.prog X.w) X.A (f v u) Q X.xe s2) :
  wpAny (model X.prog X.w) X.A (eval a X.env) (fun v s₁ => wpAny (model X.prog X.w) X.A (eval b X.env) (fun u s₂ => wpAny (model X.prog X.w) X.A (f v u) Q X.xe s₂) X.xe s₁) X.xe s := by
 refine thn (ha pins s σ H _ I h) fun v s1 ⟨x, H1, I1, r1, q1⟩ => ?_
 refine thn (hb pins s1 σ H1 _ I1 q1) fun u s2 ⟨y, H2, I2, r2, q2⟩ => ?_
 exact hf v u s2 x y H2 I2 r1 r2 q2
theorem pe_op {op : Operator} {r : R2} (ho : OpR X (binaryOp op) r) (ha : PE X a ta) (hb : PE X b tb) : PE X (.BinOp a op b pos) (tOp r ta tb) := by
 intro pins s σ H Q I h
 exact wpAny_BinOp (binT ha hb I h fun v u s2 x y H2 I2 rx ry q => ho pins s2 σ H2 x y v u Q I2 rx ry q)
theorem opI {f : Value → Value → Sem Value} {C : Int → Int → Prop} {g : Int → Int → Int}
  (rule : ∀ (i j : Int) (t u : Tok) (s : Shared) (Q : Value → Shared → Prop) (E : Value → Shared → Prop), C i j → Q (.int (g i j) s.toks) { s with toks := s.toks + 1 } → wpAny (model X.prog X.w) X.A (f (.int i t) (.int j u)) Q E s) :
  OpR X f (rI C fun i j => .int (g i j)) := by
 intro pins s σ H x y v u Q I rx ry h
 obtain ⟨i, j, rfl, rfl, hc, q⟩ := h
 obtain ⟨t, rfl⟩ := rx
 obtain ⟨t', rfl⟩ := ry
 exact rule i j t t' s _ _ hc ⟨.int (g i j), H, I.tok _, ⟨_, rfl⟩, q⟩
theorem opI0 {f : Value → Value → Sem Value} {g : Int → Int → Int}
  (rule : ∀ (i j : Int) (t u : Tok) (s : Shared) (Q : Value → Shared → Prop) (E : Value → Shared → Prop), Q (.int (g i j) s.toks) { s with toks := s.toks + 1 } → wpAny (model X.prog X.w) X.A (f (.int i t) (.int j u)) Q E s) :
  OpR X f (rI0 fun i j => .int (g i j)) := by
 intro pins s σ H x y v u Q I rx ry h
 obtain ⟨i, j, rfl, rfl, q⟩ := h
 obtain ⟨t, rfl⟩ := rx
 obtain ⟨t', rfl⟩ := ry
 exact rule i j t t' s _ _ ⟨.int (g i j), H, I.tok _, ⟨_, rfl⟩, q⟩
theorem opB0 {f : Value → Value → Sem Value} {g : Int → Int → Bool}
  (rule : ∀ (i j : Int) (t u : Tok) (s : Shared) (Q : Value → Shared → Prop) (E : Value → Shared → Prop), Q (.bool (g i j)) s → wpAny (model X.prog X.w) X.A (f (.int i t) (.int j u)) Q E s) :
  OpR X f (rI0 fun i j => .bl (g i j)) := by
 intro pins s σ H x y v u Q I rx ry h
 obtain ⟨i, j, rfl, rfl, q⟩ := h
 obtain ⟨t, rfl⟩ := rx
 obtain ⟨t', rfl⟩ := ry
 exact rule i j t t' s _ _ ⟨.bl (g i j), H, I, rfl, q⟩
noncomputable def CDiv (i j : Int) : Prop := 0 < j ∧ j < 1073741824
noncomputable def CMul (i j : Int) : Prop := (-(2 ^ 64) < i ∧ i < 2 ^ 64) ∨ (-(2 ^ 64) < j ∧ j < 2 ^ 64)
theorem CMul.ok {i j : Int} (h : CMul i j) : IntMulOk i j := by
 rcases h with ⟨h1, h2⟩ | ⟨h1, h2⟩
 ·exact .of_left (intBits_le_64 h1 h2)
 ·exact .of_right (intBits_le_64 h1 h2)
theorem two_pow_nn (k : Nat) : (0 : Int) ≤ 2 ^ k := by
 rw [two_pow_cast]
 exact Int.natCast_nonneg _
theorem op_add : OpR X (binaryOp .Add) (rI0 fun i j => .int (i + j)) := opI0 fun _ _ _ _ _ _ _ q => add_int q
theorem op_sub : OpR X (binaryOp .Sub) (rI0 fun i j => .int (i - j)) := opI0 fun _ _ _ _ _ _ _ q => sub_int q
theorem op_mul : OpR X (binaryOp .Mult) (rI CMul fun i j => .int (i * j)) := opI fun _ _ _ _ _ _ _ hc q => mul_int q hc.ok
theorem op_fdiv : OpR X (binaryOp .FloorDiv) (rI CDiv fun i j => .int (i / j)) := opI fun i j _ _ _ _ _ hc q => by
 have h1 : (0 : Int) < j := hc.1
 have h2 : j < 1073741824 := hc.2
 exact floordiv_int (by omega) (by rw [Int.fdiv_eq_ediv_of_nonneg i (by omega)]; exact q) (.inl (PyProof.noPylong_small (by omega)))
theorem op_mod : OpR X (binaryOp .Mod) (rI (fun _ j => 0 < j) fun i j => .int (i % j)) := opI fun i j _ _ _ _ _ hc q => by
 have h1 : (0 : Int) < j := hc
 exact mod_int' (by omega) (by rw [Int.fmod_eq_emod_of_nonneg i (by omega)]; exact q)
theorem op_shr : OpR X (binaryOp .RShift) (rI (fun _ j => 0 ≤ j) fun i j => .int (i / 2 ^ j.toNat)) := opI fun i j _ _ _ _ _ hc q =>
 rshift_int hc (by rw [Int.fdiv_eq_ediv_of_nonneg i (two_pow_nn _)]; exact q)
end
noncomputable def scal : V → V → Bool
 | .non, .non => true | .non, .int _ => true | .int _, .non => true | .non, .bl _ => true | .bl _, .non => true | .non, .str _ => true | .str _, .non => true
 | .int _, .int _ => true | .bl _, .bl _ => true | .str _, .str _ => true | .byt _, .byt _ => true
 | .int _, .str _ => true | .str _, .int _ => true | .bl _, .str _ => true | .str _, .bl _ => true
 | _, _ => false
noncomputable def rEq : R2 := fun x y H Q => scal x y = true ∧ Q (.bl (decide (x = y))) H
noncomputable def rNe : R2 := fun x y H Q => scal x y = true ∧ Q (.bl (!decide (x = y))) H
theorem dec_int {i j : Int} : decide (V.int i = V.int j) = (i == j) := by
 rw [Bool.eq_iff_iff]
 simp
theorem dec_bl {i j : Bool} : decide (V.bl i = V.bl j) = (i == j) := by
 rw [Bool.eq_iff_iff]
 simp
theorem dec_str {i j : Str} : decide (V.str i = V.str j) = (i == j) := by
 rw [Bool.eq_iff_iff]
 simp
theorem dec_byt {i j : Array UInt8} : decide (V.byt i = V.byt j) = (i.toList == j.toList) := by
 rw [Bool.eq_iff_iff]
 cases i
 cases j
 simp
section
variable {X : Cx} {a b c : Expr} {ta tb tc : TE} {pos : Pos}
theorem fin_bl {pins : List (Addr × Obj)} {σ : St} {H : Hp} {s : Shared} {Q : VK} {k k' : Bool} (I : Inv X pins σ H s) (q : Q (.bl k) H) (e : k = k') : EP X pins σ Q (.bool k') s := by
 subst e
 exact ⟨.bl k, H, I, rfl, q⟩
theorem op_eq : OpR X (compareOp .Eq) rEq := by
 intro pins s σ H x y v u Q I rx ry h
 obtain ⟨hs, q⟩ := h
 cases x with
 | non =>
  cases rx
  cases y with
  | non => cases ry; exact PySem.EqNone.eq_none_none (fin_bl I q (by simp))
  | bl j => cases ry; exact PySem.EqNone.eq_none_bool (fin_bl I q (by simp))
  | int j => obtain ⟨t', rfl⟩ := ry; exact PySem.EqNone.eq_none_int (fin_bl I q (by simp))
  | str j => obtain ⟨t', rfl⟩ := ry; exact PySem.EqNone.eq_none_str (fin_bl I q (by simp))
  | _ => exact absurd (show false = true from hs) Bool.false_ne_true
 | bl i =>
  cases rx
  cases y with
  | non => cases ry; exact PySem.EqNone.eq_bool_none (fin_bl I q (by simp))
  | bl j => cases ry; exact eq_bool (fin_bl I q dec_bl)
  | str j => obtain ⟨t', rfl⟩ := ry; exact PySem.EqMixed.eq_bool_str (fin_bl I q (by simp))
  | _ => exact absurd (show false = true from hs) Bool.false_ne_true
 | int i =>
  obtain ⟨t, rfl⟩ := rx
  cases y with
  | non => cases ry; exact PySem.EqNone.eq_int_none (fin_bl I q (by simp))
  | int j => obtain ⟨t', rfl⟩ := ry; exact eq_int (fin_bl I q dec_int)
  | str j => obtain ⟨t', rfl⟩ := ry; exact PySem.EqMixed.eq_int_str (fin_bl I q (by simp))
  | _ => exact absurd (show false = true from hs) Bool.false_ne_true
 | str i =>
  obtain ⟨t, rfl⟩ := rx
  cases y with
  | non => cases ry; exact PySem.EqNone.eq_str_none (fin_bl I q (by simp))
  | bl j => cases ry; exact PySem.EqMixed.eq_str_bool (fin_bl I q (by simp))
  | int j => obtain ⟨t', rfl⟩ := ry; exact PySem.EqMixed.eq_str_int (fin_bl I q (by simp))
  | str j => obtain ⟨t', rfl⟩ := ry; exact eq_str (fin_bl I q dec_str)
  | _ => exact absurd (show false = true from hs) Bool.false_ne_true
 | byt i =>
  obtain ⟨t, rfl⟩ := rx
  cases y with
  | byt j => obtain ⟨t', rfl⟩ := ry; exact PySem.W.eq_bytes (fin_bl I q dec_byt)
  | _ => exact absurd (show false = true from hs) Bool.false_ne_true
 | _ => cases y <;> exact absurd (show false = true from hs) Bool.false_ne_true
theorem op_ne : OpR X (compareOp .NotEq) rNe := by
 intro pins s σ H x y v u Q I rx ry h
 obtain ⟨hs, q⟩ := h
 cases x with
 | non =>
  cases rx
  cases y with
  | non => cases ry; exact PySem.EqNone.ne_none_none (fin_bl I q (by simp))
  | bl j => cases ry; exact PySem.EqNone.ne_none_bool (fin_bl I q (by simp))
  | int j => obtain ⟨t', rfl⟩ := ry; exact PySem.EqNone.ne_none_int (fin_bl I q (by simp))
  | str j => obtain ⟨t', rfl⟩ := ry; exact PySem.EqNone.ne_none_str (fin_bl I q (by simp))
  | _ => exact absurd (show false = true from hs) Bool.false_ne_true
 | bl i =>
  cases rx
  cases y with
  | non => cases ry; exact PySem.EqNone.ne_bool_none (fin_bl I q (by simp))
  | bl j => cases ry; exact ne_bool (fin_bl I q (congrArg not dec_bl))
  | str j => obtain ⟨t', rfl⟩ := ry; exact PySem.EqMixed.ne_bool_str (fin_bl I q (by simp))
  | _ => exact absurd (show false = true from hs) Bool.false_ne_true
 | int i =>
  obtain ⟨t, rfl⟩ := rx
  cases y with
  | non => cases ry; exact PySem.EqNone.ne_int_none (fin_bl I q (by simp))
  | int j => obtain ⟨t', rfl⟩ := ry; exact ne_int (fin_bl I q (congrArg not dec_int))
  | str j => obtain ⟨t', rfl⟩ := ry; exact PySem.EqMixed.ne_int_str (fin_bl I q (by simp))
  | _ => exact absurd (show false = true from hs) Bool.false_ne_true
 | str i =>
  obtain ⟨t, rfl⟩ := rx
  cases y with
  | non => cases ry; exact PySem.EqNone.ne_str_none (fin_bl I q (by simp))
  | bl j => cases ry; exact PySem.EqMixed.ne_str_bool (fin_bl I q (by simp))
  | int j => obtain ⟨t', rfl⟩ := ry; exact PySem.EqMixed.ne_str_int (fin_bl I q (by simp))
  | str j => obtain ⟨t', rfl⟩ := ry; exact ne_str (fin_bl I q (congrArg not dec_str))
  | _ => exact absurd (show false = true from hs) Bool.false_ne_true
 | byt i =>
  obtain ⟨t, rfl⟩ := rx
  cases y with
  | byt j => obtain ⟨t', rfl⟩ := ry; exact PySem.W.ne_bytes (fin_bl I q (congrArg not dec_byt))
  | _ => exact absurd (show false = true from hs) Bool.false_ne_true
 | _ => cases y <;> exact absurd (show false = true from hs) Bool.false_ne_true
theorem op_lt : OpR X (compareOp .Lt) (rI0 fun i j => .bl (decide (i < j))) := opB0 fun _ _ _ _ _ _ _ q => lt_int q
theorem op_le : OpR X (compareOp .LtE) (rI0 fun i j => .bl (decide (i ≤ j))) := opB0 fun _ _ _ _ _ _ _ q => le_int q
theorem op_gt : OpR X (compareOp .Gt) (rI0 fun i j => .bl (decide (j < i))) := opB0 fun _ _ _ _ _ _ _ q => gt_int q
theorem op_ge : OpR X (compareOp .GtE) (rI0 fun i j => .bl (decide (j ≤ i))) := opB0 fun _ _ _ _ _ _ _ q => ge_int q
theorem op_in_str : OpR X (compareOp .In) (fun x y H Q => ∃ i j, x = .str i ∧ y = .str j ∧ Q (.bl (!(Builtin.Str.occurrences j i 0 j.length 1).isEmpty)) H) := by
 intro pins s σ H x y v u Q I rx ry h
 obtain ⟨i, j, rfl, rfl, q⟩ := h
 obtain ⟨t, rfl⟩ := rx
 obtain ⟨t', rfl⟩ := ry
 exact in_str (fin_bl I q rfl)
theorem op_isN : OpR X (compareOp .Is) (fun x y H Q => y = .non ∧ Q (.bl (decide (x = .non))) H) := by
 intro pins s σ H x y v u Q I rx ry h
 obtain ⟨rfl, q⟩ := h
 cases ry
 refine is_none_gen (fin_bl I q ?_)
 cases x <;> first
  | (cases rx; rfl)
  | (obtain ⟨t, rfl⟩ := rx; rfl)
theorem op_notN : OpR X (compareOp .IsNot) (fun x y H Q => y = .non ∧ Q (.bl (!decide (x = .non))) H) := by
 intro pins s σ H x y v u Q I rx ry h
 obtain ⟨rfl, q⟩ := h
 cases ry
 refine isnot_none_gen (fin_bl I q ?_)
 cases x <;> first
  | (cases rx; rfl)
  | (obtain ⟨t, rfl⟩ := rx; rfl)
theorem OpR.or {f : Value → Value → Sem Value} {r r' : R2} (h : OpR X f r) (h' : OpR X f r') : OpR X f (fun x y H Q => r x y H Q ∨ r' x y H Q) := by
 intro pins s σ H x y v u Q I rx ry q
 rcases q with q | q
 ·exact h pins s σ H x y v u Q I rx ry q
 ·exact h' pins s σ H x y v u Q I rx ry q
theorem nomark (b : Expr) {op : CmpOp} (h : op ≠ .In := by decide) (h2 : op ≠ .NotIn := by decide) : behindInMarks op b = false := by
 have e1 : (op == CmpOp.In) = false := by cases op <;> first | rfl | exact absurd rfl h
 have e2 : (op == CmpOp.NotIn) = false := by cases op <;> first | rfl | exact absurd rfl h2
 cases b <;> simp [behindInMarks, e1, e2]
theorem pe_cmpR {op : CmpOp} {r : R2} (ho : OpR X (compareOp op) r) (ha : PE X a ta) (hb : PE X b tb) (hm : behindInMarks op b = false) : PE X (.Compare a [op] [b] pos) (tOp r ta tb) := by
 intro pins s σ H Q I h
 exact wpAny_Compare1 (binT ha hb I h fun v u s2 x y H2 I2 rx ry q => ho pins s2 σ H2 x y v u Q I2 rx ry q) hm
noncomputable def tTest (t : TE) : TT := fun σ H Q => t σ H fun x H' => ∃ k, x = .bl k ∧ Q k H'
theorem pt_cmpR {op : CmpOp} {r : R2} (ho : OpR X (compareOp op) r) (ha : PE X a ta) (hb : PE X b tb) (hm : behindInMarks op b = false) : PT X (.Compare a [op] [b] pos) (tTest (tOp r ta tb)) := by
 intro pins s σ H Q I h
 refine wpAny_isTrue_Compare1 (thn (ha pins s σ H _ I h) fun v s1 ⟨x, H1, I1, r1, q1⟩ => thn (hb pins s1 σ H1 _ I1 q1) fun u s2 ⟨y, H2, I2, r2, q2⟩ =>
  thn (ho pins s2 σ H2 x y v u _ I2 r1 r2 q2) fun c s3 ⟨z, H3, I3, r3, k, e, q3⟩ => ?_) hm
 subst e
 cases r3
 exact wpAny_truthy_bool ⟨H3, I3, q3⟩
noncomputable def tChain (r r' : R2) (ta tb tc : TE) : TE := fun σ H Q => ta σ H fun x H1 => tb σ H1 fun y H2 => r x y H2 fun z H3 => ∃ k, z = .bl k ∧
 (if k = true then tc σ H3 fun w' H4 => r' y w' H4 Q else Q (.bl false) H3)
theorem pe_chain {op op' : CmpOp} {r r' : R2} (ho : OpR X (compareOp op) r) (ho' : OpR X (compareOp op') r') (ha : PE X a ta) (hb : PE X b tb) (hc : PE X c tc)
  (hm : lastMarks [op, op'] [b, c] = false := by with_unfolding_all rfl) : PE X (.Compare a [op, op'] [b, c] pos) (tChain r r' ta tb tc) := by
 intro pins s σ H Q I h
 refine Compare_chain (thn (ha pins s σ H _ I h) fun v s1 ⟨x, H1, I1, r1, q1⟩ => chain_link (thn (hb pins s1 σ H1 _ I1 q1) fun u s2 ⟨y, H2, I2, r2, q2⟩ =>
  thn (ho pins s2 σ H2 x y v u _ I2 r1 r2 q2) fun d s3 ⟨z, H3, I3, r3, k, e, q3⟩ => ?_)) hm
 subst e
 cases r3
 refine wpAny_truthy_bool ?_
 cases k with
 | false => exact ite_ff ⟨.bl false, H3, I3, rfl, q3⟩
 | true => exact ite_tt (chain_last (thn (hc pins s3 σ H3 _ I3 q3) fun w' s4 ⟨z', H4, I4, r4, q4⟩ => ho' pins s4 σ H4 y z' u w' Q I4 r2 r4 q4))
theorem line63 : (sizeLine : Nat) < 2 ^ 63 := by rw [sizeLine_eq]; decide
theorem op_add_str : OpR X (binaryOp .Add) (fun x y H Q => ∃ i j, x = .str i ∧ y = .str j ∧ i.length + j.length ≤ sizeLine ∧ Q (.str (i ++ j)) H) := by
 intro pins s σ H x y v u Q I rx ry h
 obtain ⟨i, j, rfl, rfl, hz, q⟩ := h
 obtain ⟨t, rfl⟩ := rx
 obtain ⟨t', rfl⟩ := ry
 exact add_str (fun t' tk => ⟨.str (i ++ j), H, I.tok _, ⟨_, rfl⟩, q⟩) hz
theorem vals1 {x : V} {us : List Value} (r : Vals [x] us) : ∃ u, us = [u] ∧ RelV x u := by
 cases r with
 | cons r1 r2 => cases r2; exact ⟨_, rfl, r1⟩
theorem vals2 {x y : V} {us : List Value} (r : Vals [x, y] us) : ∃ u w', us = [u, w'] ∧ RelV x u ∧ RelV y w' := by
 cases r with
 | cons r1 r2 =>
  cases r2 with
  | cons r3 r4 => cases r4; exact ⟨_, _, rfl, r1, r3⟩
theorem call_max2 (hc : X.calm = true) : CallR X (.builtin "max") (fun xs H Q => ∃ i j, xs = [.int i, .int j] ∧ Q (.int (if j > i then j else i)) H) := by
 intro pins s σ H xs us Q I r h
 obtain ⟨i, j, rfl, q⟩ := h
 obtain ⟨u, w', rfl, ⟨t, rfl⟩, ⟨t', rfl⟩⟩ := vals2 r
 refine max_two_ints (I.ok.hd hc) fun h' tk k => ⟨_, H, I.kept k, ?_, q⟩
 by_cases hj : j > i
 ·rw [if_pos hj, if_pos hj]; exact ⟨_, rfl⟩
 ·rw [if_neg hj, if_neg hj]; exact ⟨_, rfl⟩
theorem call_min2 (hc : X.calm = true) : CallR X (.builtin "min") (fun xs H Q => ∃ i j, xs = [.int i, .int j] ∧ Q (.int (if j < i then j else i)) H) := by
 intro pins s σ H xs us Q I r h
 obtain ⟨i, j, rfl, q⟩ := h
 obtain ⟨u, w', rfl, ⟨t, rfl⟩, ⟨t', rfl⟩⟩ := vals2 r
 refine min_two_ints (I.ok.hd hc) fun h' tk k => ⟨_, H, I.kept k, ?_, q⟩
 by_cases hj : j < i
 ·rw [if_pos hj, if_pos hj]; exact ⟨_, rfl⟩
 ·rw [if_neg hj, if_neg hj]; exact ⟨_, rfl⟩
end
end L2
namespace L2
open PySem PySem.Spec PyProof.Rows
structure ObjM (h : Heap) (x dx C : Addr) (mA : Str → Option Value) : Prop where
 obj : h.get? x = some (PySem.W.instObj C dx)
 ns : h.Ns1 dx mA
 ne : dx ≠ x
theorem lookIn_ns {h : Heap} {dx : Addr} {mA : Str → Option Value} (n : h.Ns1 dx mA) : ∃ od, h.get? dx = some od ∧ ∀ name, PySem.W.lookIn name od = some (mA name) := by
 obtain ⟨o, es, ep, ho, hd, hk, _, hm⟩ := n
 refine ⟨o, ho, fun name => ?_⟩
 have e := hm name
 unfold nsFind findBy at e
 rw [← Array.find?_toList] at e
 unfold PySem.W.lookIn
 rw [hd]
 dsimp only
 split
 ·rename_i y q
  rw [q] at e
  exact congrArg some e
 ·rename_i q
  rw [q] at e
  have a : es.toList.any (·.refKey) = false := by
   rw [List.any_eq_false]
   intro y hy
   obtain ⟨z, t, hkey⟩ := hk y (Array.mem_toList_iff.mp hy)
   simp [DictEntry.refKey, hkey]
  have a' : ¬ es.toList.any (·.refKey) = true := by rw [a]; exact Bool.false_ne_true
  rw [if_neg a']
  exact congrArg some e
theorem ObjM.look {h : Heap} {x dx C : Addr} {mA : Str → Option Value} (I : ObjM h x dx C mA) : ∃ od, PySem.W.InstAt h x (PySem.W.instObj C dx) C (some od) ∧ ∀ name, PySem.W.lookIn name od = some (mA name) :=
 let ⟨od, ho, hl⟩ := lookIn_ns I.ns
 ⟨od, ⟨I.obj, rfl, rfl, ho⟩, hl⟩
section
variable {prog : Program} {w : World} {A : Around} {E : Value → Shared → Prop} {s : Shared} {K : PySem.W.Frag} {x dx C f : Addr} {mA : Str → Option Value} {name : Str} {v : Value}
theorem get_map {expr : Bool} {Q : Value → Shared → Prop} (X : K.In s.heap) (I : ObjM s.heap x dx C mA) (hg : PySem.W.plainGet K C name = true) (hh : PySem.W.hasDictIn K C = true)
  (ha : PySem.W.findIn K (.ref C) name = some none) (hv : mA name = some v) (hv' : PySem.W.handedIn v = true) (h : Q v { s with toks := s.toks + 1 }) :
  wpAny (model prog w) A (getAttr (.ref x) name expr) Q E s := by
 obtain ⟨od, J, hl⟩ := I.look
 exact PySem.W.get_value X J (PySem.W.plainGet_of hg).1 (PySem.W.findObj_own hh ha rfl (by rw [hl, hv])) hv' h
theorem get_meth {pl : Sem Bool} {Q : Value × List Value → Shared → Prop} (X : K.In s.heap) (I : ObjM s.heap x dx C mA) (hg : PySem.W.plainGet K C name = true)
  (hf : PySem.W.findIn K (.ref C) name = some (some (.ref f))) (ht : PySem.W.isFn K (.ref f) = true) (hv : mA name = none) (h : Q (.ref f, [.ref x]) s) :
  wpAny (model prog w) A (getMethod (.ref x) name pl) Q E s := by
 obtain ⟨od, J, hl⟩ := I.look
 exact PySem.W.method_fn X J (PySem.W.plainGet_of hg).1 (PySem.W.plainGet_of hg).2 hf (beq_iff_eq.mp ht) (by show (PySem.W.lookIn name od).map (·.isSome) = some false; rw [hl, hv]; rfl) h
theorem set_map {ns : List Str} {Q : Unit → Shared → Prop} (X : K.In s.heap) (I : ObjM s.heap x dx C mA)
  (hs : PySem.W.findIn K (.ref C) "__setattr__" = some (some (.builtin "object.__setattr__"))) (hp : PySem.W.plainOver K C = true) (ht : PySem.W.takerIn K C name = some none) (hh : PySem.W.hasDictIn K C = true)
  (hw : PySem.Within mA ns) (hsz : ns.length ≤ sizeLine)
  (h : ∀ h', ObjM h' x dx C (fun y => if y = name then some v else mA y) → Heap.SameBut dx s.heap h' → Q () { s with heap := h', toks := s.toks + 2 }) :
  wpAny (model prog w) A (setAttr (.ref x) name v) Q E s := by
 obtain ⟨od, J, hl⟩ := I.look
 refine PySem.W.set_plain X J hs (PySem.W.osa_open (s := { s with toks := s.toks + 1 }) (r := none) X J hp ht fun b => ?_)
 obtain ⟨cd, hc, hd'⟩ := PySem.W.any_some hh
 have hx : s.heap.get? x = some ⟨.ref C, some dx, .plain, #[]⟩ := I.obj
 refine wpAny_bind (wpAny_pure (wpAny_bind (wpAny_bind (wpAny_loadPart hx (wpAny_bind (PySem.W.Looks.here (s := { s with toks := s.toks + 1 }) (PySem.W.looks_clsIn X hc) ?_))))))
 rw [hd']
 refine wpAny_pure (a := some dx) (wpAny_bind (wpAny_pure (wpAny_bind ?_)))
 refine wpAny_nsSet1 (s := { s with toks := s.toks + 1 }) I.ns fun h' hn2 hs2 => ?_
 obtain ⟨oD, esD, epD, hoD, hdD, hcD⟩ := hn2.count (PySem.Within.cons name v hw)
 refine wpAny_bind (wpAny_lookBehind hoD (by rw [hdD]; exact pastItsLine_dict (Nat.le_trans hcD (by rw [List.length_cons]; omega))) ?_)
 exact wpAny_pure (h _ ⟨(hs2.2 _ (Ne.symm I.ne)).trans I.obj, hn2, I.ne⟩ hs2)
theorem make_map {R : Result → Shared → Prop} {vs : List Value} {kw : List (Str × Value)} (X : K.In s.heap) (hm : PySem.W.makesIn K C = true)
  (hi : PySem.W.findIn K (.ref C) "__init__" = some (some (.ref f))) (hf : PySem.W.typeIn K (.ref f) = some (.type "function"))
  (h : codeAny (model prog w) (A.under (.builtin "type.__call__" ⟨.ref C :: vs, kw⟩)) (.call (.ref f) ⟨.ref (s.heap.objs.size + 1) :: vs, kw⟩) (PySem.W.InitBack (s.heap.objs.size + 1) R)
   { s with heap := (s.heap.push PySem.W.emptyDict).push (PySem.W.instObj C s.heap.objs.size) }) :
  codeAny (model prog w) A (.call (.ref C) ⟨vs, kw⟩) R s := by
 obtain ⟨hh, g, d, t, os⟩ := s
 exact PySem.W.make_core (PySem.W.makes_of X hm) (PySem.W.looks_findIn X hi) (fun self => PySem.W.bind_fn X self hf) (.inl rfl) h
theorem make_map0 {R : Result → Shared → Prop} (X : K.In s.heap) (hm : PySem.W.makesIn K C = true)
  (hi : PySem.W.findIn K (.ref C) "__init__" = some (some (.builtin "object.__init__")))
  (hb : ∀ self, PySem.W.Looks (model prog w) s.heap (bindSpecial (.builtin "object.__init__") self) (.builtin "object.__init__", [self]))
  (h : codeAny (model prog w) (A.under (.builtin "type.__call__" ⟨[.ref C], []⟩)) (.call (.builtin "object.__init__") ⟨[.ref (s.heap.objs.size + 1)], []⟩) (PySem.W.InitBack (s.heap.objs.size + 1) R)
   { s with heap := (s.heap.push PySem.W.emptyDict).push (PySem.W.instObj C s.heap.objs.size) }) :
  codeAny (model prog w) A (.call (.ref C) ⟨[], []⟩) R s := by
 obtain ⟨hh, g, d, t, os⟩ := s
 exact PySem.W.make_core (PySem.W.makes_of X hm) (PySem.W.looks_findIn X hi) hb (.inr ⟨rfl, rfl⟩) h
end
noncomputable def putF (f : Str) (v : V) : List (Str × V) → List (Str × V)
 | [] => [(f, v)]
 | (g, x) :: r => if g = f then (g, v) :: r else (g, x) :: putF f v r
theorem lookup_putF (f g : Str) (v : V) : ∀ fs : List (Str × V), (putF f v fs).lookup g = if g = f then some v else fs.lookup g
 | [] => by
  show List.lookup g [(f, v)] = _
  by_cases h : g = f
  ·have hb : (g == f) = true := beq_iff_eq.mpr h
   simp only [List.lookup, hb, if_pos h]
  ·have hb : (g == f) = false := beq_eq_false_iff_ne.mpr h
   simp only [List.lookup, hb, if_neg h]
 | (k, x) :: r => by
  have ih := lookup_putF f g v r
  rw [show putF f v ((k, x) :: r) = (if k = f then (k, v) :: r else (k, x) :: putF f v r) from rfl]
  by_cases hk : k = f
  ·rw [if_pos hk]
   by_cases h : g = k
   ·have hb : (g == k) = true := beq_iff_eq.mpr h
    simp only [List.lookup, hb, if_pos (h.trans hk)]
   ·have hb : (g == k) = false := beq_eq_false_iff_ne.mpr h
    simp only [List.lookup, hb, if_neg (fun e : g = f => h (e.trans hk.symm))]
  ·rw [if_neg hk]
   by_cases h : g = k
   ·have hb : (g == k) = true := beq_iff_eq.mpr h
    simp only [List.lookup, hb, if_neg (fun e : g = f => hk (h.symm.trans e))]
   ·have hb : (g == k) = false := beq_eq_false_iff_ne.mpr h
    simp only [List.lookup, hb]
    exact ih
theorem keys_putF (f : Str) (v : V) : ∀ fs : List (Str × V), f ∈ (putF f v fs).map (·.1) ∧ ∀ g, g ∈ fs.map (·.1) → g ∈ (putF f v fs).map (·.1)
 | [] => ⟨by simp [putF], fun g h => by simp at h⟩
 | (k, x) :: r => by
  obtain ⟨i1, i2⟩ := keys_putF f v r
  rw [show putF f v ((k, x) :: r) = (if k = f then (k, v) :: r else (k, x) :: putF f v r) from rfl]
  by_cases hk : k = f
  ·rw [if_pos hk]
   subst hk
   exact ⟨by simp, fun g h => by simpa using h⟩
  ·rw [if_neg hk]
   refine ⟨?_, fun g h => ?_⟩
   ·rw [List.map_cons]
    exact List.mem_cons_of_mem _ i1
   ·rw [List.map_cons] at h ⊢
    rcases List.mem_cons.mp h with e | e
    ·exact List.mem_cons.mpr (.inl e)
    ·exact List.mem_cons_of_mem _ (i2 g e)
theorem length_putF (f : Str) (v : V) : ∀ fs : List (Str × V), (putF f v fs).length ≤ fs.length + 1
 | [] => by simp [putF]
 | (k, x) :: r => by
  have ih := length_putF f v r
  rw [show putF f v ((k, x) :: r) = (if k = f then (k, v) :: r else (k, x) :: putF f v r) from rfl]
  by_cases hk : k = f
  ·rw [if_pos hk, List.length_cons, List.length_cons]; omega
  ·rw [if_neg hk, List.length_cons, List.length_cons]; omega
theorem RelO.some_of {v : V} {o : Option Value} (r : RelO (some v) o) : ∃ u, o = some u ∧ RelV v u := by
 cases o with
 | none => exact (show False from r).elim
 | some u => exact ⟨u, rfl, r⟩
theorem RelO.none_of {o : Option Value} (r : RelO none o) : o = none := by
 cases o with
 | none => rfl
 | some u => exact (show False from r).elim
theorem handed_of {v : V} {u : Value} (r : RelV v u) : PySem.W.handedIn u = true := by
 cases v with
 | non => cases (show u = Value.none from r); rfl
 | bl b => cases (show u = Value.bool b from r); rfl
 | int i => obtain ⟨t, e⟩ := (show ∃ t, u = Value.int i t from r); cases e; rfl
 | str x => obtain ⟨t, e⟩ := (show ∃ t, u = Value.str x t from r); cases e; rfl
 | byt b => obtain ⟨t, e⟩ := (show ∃ t, u = Value.bytes b t from r); cases e; rfl
 | flt b => obtain ⟨t, e⟩ := (show ∃ t, u = Value.float b t from r); cases e; rfl
 | ref a => cases (show u = Value.ref a from r); rfl
 | ty n => cases (show u = Value.type n from r); rfl
section
variable {P : Program} {w : World} {H H' : Hp} {h h' : Heap} {a C dx : Addr} {fs fs' : List (Str × V)}
theorem ins_get (hok : HOk P w H h) (e : H a = some (.ins C dx fs)) : ∃ mA, ObjM h a dx C mA ∧ (∀ f, RelO (fs.lookup f) (mA f)) ∧ PySem.Within mA (fs.map (·.1)) ∧ fs.length ≤ 1000 ∧ H dx = some (.own a) := by
 obtain ⟨d, z, ne, ob, mA, n, r, q⟩ := (show ObjOk P w H h a (.ins C dx fs) from hok a _ e)
 exact ⟨mA, ⟨ob, n, ne⟩, r, q, z, d⟩
end
structure Cls (K : PySem.W.Frag) (C : Addr) : Prop where
 pg : PySem.W.plainGet K C Str.empty = true
 hd : PySem.W.hasDictIn K C = true
 po : PySem.W.plainOver K C = true
 sa : PySem.W.findIn K (.ref C) "__setattr__" = some (some (.builtin "object.__setattr__"))
theorem Cls.get {K : PySem.W.Frag} {C : Addr} (c : Cls K C) (f : Str) : PySem.W.plainGet K C f = true := c.pg
noncomputable def NoAttr (K : PySem.W.Frag) (C : Addr) (f : Str) : Prop := PySem.W.findIn K (.ref C) f = some none
theorem NoAttr.taker {K : PySem.W.Frag} {C : Addr} {f : Str} (n : NoAttr K C f) : PySem.W.takerIn K C f = some none := by
 unfold PySem.W.takerIn
 rw [show PySem.W.findIn K (.ref C) f = some none from n]
 rfl
structure Meth (K : PySem.W.Frag) (C : Addr) (m : Str) (f : Addr) : Prop where
 at_ : PySem.W.findIn K (.ref C) m = some (some (.ref f))
 fn : PySem.W.isFn K (.ref f) = true
 kp : PySem.W.keepIn K (.ref f) = true
section
variable {X : Cx} {pins : List (Addr × Obj)} {σ : St} {H : Hp} {s : Shared} {a C dx : Addr} {fs : List (Str × V)} {f : Str} {v : V} {A : Around} {E : Value → Shared → Prop}
theorem getattr_ok {b : Bool} {Q : Value → Shared → Prop} (I : Inv X pins σ H s) (e : H a = some (.ins C dx fs)) (c : Cls X.K C) (n : NoAttr X.K C f) (l : fs.lookup f = some v)
  (h : ∀ u s', Inv X pins σ H s' → RelV v u → Q u s') : wpAny (model X.prog X.w) A (getAttr (.ref a) f b) Q E s := by
 obtain ⟨mA, O, r, _, _, _⟩ := ins_get I.hok e
 obtain ⟨u, hu, ru⟩ := RelO.some_of (v := v) (o := mA f) (by rw [← l]; exact r f)
 exact get_map I.kIn O (c.get f) c.hd n hu (handed_of ru) (h u _ (I.tok _) ru)
theorem getmeth_ok {m : Str} {g : Addr} {pl : Sem Bool} {Q : Value × List Value → Shared → Prop} (I : Inv X pins σ H s) (e : H a = some (.ins C dx fs)) (c : Cls X.K C) (k : Meth X.K C m g) (l : fs.lookup m = none)
  (h : Q (.ref g, [.ref a]) s) : wpAny (model X.prog X.w) A (getMethod (.ref a) m pl) Q E s := by
 obtain ⟨mA, O, r, _, _, _⟩ := ins_get I.hok e
 have hn : mA m = none := RelO.none_of (by rw [← l]; exact r m)
 exact get_meth I.kIn O (c.get m) k.at_ k.fn hn h
theorem setattr_ok {y : V} {u : Value} {Q : Unit → Shared → Prop} (I : Inv X pins σ H s) (e : H a = some (.ins C dx fs)) (c : Cls X.K C) (n : NoAttr X.K C f) (hl : fs.length < 1000) (ry : RelV y u)
  (h : ∀ s', Inv X pins σ (upd H a (.ins C dx (putF f y fs))) s' → Q () s') : wpAny (model X.prog X.w) A (setAttr (.ref a) f u) Q E s := by
 obtain ⟨mA, O, r, wi, _, ho⟩ := ins_get I.hok e
 have hz : (fs.map (·.1)).length ≤ sizeLine := by rw [List.length_map, sizeLine_eq]; omega
 refine set_map I.kIn O c.sa c.po n.taker c.hd wi hz fun h' O' sb => h _ ?_
 have hd : ∃ o, h'.get? dx = some o := let ⟨o, _, _, e', _⟩ := O'.ns; ⟨o, e'⟩
 refine I.write (x := a) (e := dx) (by rw [e]; exact True.intro) (.inr ho) (fun b q hb z => (sb.2 b hb).trans z) hd ?_
 refine ⟨by rw [upd_ne O.ne]; exact ho, ?_, O.ne, O'.obj, _, O'.ns, fun g => ?_, fun g hg => ?_⟩
 ·have := length_putF f y fs; omega
 ·show RelO ((putF f y fs).lookup g) (if g = f then some u else mA g)
  rw [lookup_putF]
  by_cases q : g = f
  ·rw [if_pos q, if_pos q]; exact ry
  ·rw [if_neg q, if_neg q]; exact r g
 ·by_cases q : g = f
  ·rw [q]; exact (keys_putF f y fs).1
  ·refine (keys_putF f y fs).2 g (wi g fun z => hg ?_)
   show (if g = f then some u else mA g) = none
   rw [if_neg q]; exact z
theorem Inv.made (I : Inv X pins σ H s) : Inv X pins σ (upd (upd H s.heap.objs.size (.own (s.heap.objs.size + 1))) (s.heap.objs.size + 1) (.ins C s.heap.objs.size []))
  { s with heap := (s.heap.push PySem.W.emptyDict).push (PySem.W.instObj C s.heap.objs.size) } := by
 have e1 : (s.heap.push PySem.W.emptyDict).get? s.heap.objs.size = some PySem.W.emptyDict := Heap.get?_push_size s.heap rfl
 have e2 : ((s.heap.push PySem.W.emptyDict).push (PySem.W.instObj C s.heap.objs.size)).get? (s.heap.objs.size + 1) = some (PySem.W.instObj C s.heap.objs.size) := by
  have := Heap.get?_push_size (s.heap.push PySem.W.emptyDict) (o := PySem.W.instObj C s.heap.objs.size) rfl
  rwa [Heap.size_push] at this
 have e3 : (s.heap.push PySem.W.emptyDict).Ns s.heap.objs.size (fun _ => none) := ⟨PySem.W.emptyDict, #[], _, e1, rfl, (fun e he => absurd he (by simp)), fun _ => rfl⟩
 have I1 := I.laid (a := s.heap.objs.size) (o := .own (s.heap.objs.size + 1)) (h' := s.heap.push PySem.W.emptyDict) (t' := s.toks) (fun b u q => Heap.get?_push_of_some _ q) (Nat.le_refl _) ⟨_, e1⟩
 refine I1.laid (a := s.heap.objs.size + 1) (o := .ins C s.heap.objs.size []) (t' := s.toks) (fun b u q => Heap.get?_push_of_some _ q) (Nat.le_of_eq (Heap.size_push _ _)) ?_
 have ne : s.heap.objs.size ≠ s.heap.objs.size + 1 := Nat.ne_of_lt (Nat.lt_succ_self _)
 refine ⟨by rw [upd_ne ne, upd_same], Nat.zero_le _, ne, e2, fun _ => none, (Heap.Ns1.of_empty e3).at fun o q => Heap.get?_push_of_some _ q, fun _ => True.intro, fun y hy => absurd rfl hy⟩
theorem attr_of {prog : Program} {w : World} {env : Env} {e : Expr} {f : Str} {pos : Pos} {s : Shared} {Q : Value → Shared → Prop} (hb : attributeBase e f env (eval e env) = eval e env)
  (h : wpAny (model prog w) A (eval e env) (fun o s₁ => wpAny (model prog w) A (getAttr o f true) Q E s₁) E s) : wpAny (model prog w) A (eval (.Attribute e f pos) env) Q E s :=
 Attribute_any_ h (by rw [arm_eval_Attribute, hb])
end
section
variable {X : Cx} {o e value : Expr} {f : Str} {pos pos' tpos : Pos} {ta tv : TE}
end
section
variable {X : Cx} {pins : List (Addr × Obj)} {σ : St} {H : Hp} {s : Shared} {A : Around} {E : Value → Shared → Prop} {Q : Value → Shared → Prop} {c : Value} {b : Bool}
inductive TyOf (K : PySem.W.Frag) (H : Hp) : V → Value → Prop where
 | non : TyOf K H .non (.type "NoneType")
 | bl (x : Bool) : TyOf K H (.bl x) (.type "bool")
 | int (i : Int) : TyOf K H (.int i) (.type "int")
 | str (x : Str) : TyOf K H (.str x) (.type "str")
 | flt (x : UInt64) : TyOf K H (.flt x) (.type "float")
 | lst {a : Addr} {xs : List V} (e : H a = some (.lst xs)) : TyOf K H (.ref a) (.type "list")
 | frz {a : Addr} {o : Obj} {xs : List V} (e : H a = some (.frz o (.lst xs))) : TyOf K H (.ref a) (.type "list")
 | tup {a : Addr} {xs : List V} (e : H a = some (.tup xs)) : TyOf K H (.ref a) (.type "tuple")
 | dK {a : Addr} {kvs : List (Key × V)} (e : H a = some (.dK kvs)) : TyOf K H (.ref a) (.type "dict")
 | dT {a : Addr} {kvs : List (List Key × V)} (e : H a = some (.dT kvs)) : TyOf K H (.ref a) (.type "dict")
 | ins {a C dx : Addr} {fs : List (Str × V)} (e : H a = some (.ins C dx fs)) (cl : Cls K C) (ha : PySem.W.findIn K (.ref C) "__class__" = some (some (.builtin "object.__class__")))
   (hn : PySem.W.specialIn K (.builtin "object.__class__") "__get__" = some (some (.builtin "getset_descriptor.__get__"))) (htk : PySem.W.takesIn K (.builtin "object.__class__") = some true)
   (hm : PySem.W.mroIn K C (.type "object") = some true) : TyOf K H (.ref a) (.ref C)
theorem isinst_ok {x : V} {u t : Value} (I : Inv X pins σ H s) (rx : RelV x u) (ty : TyOf X.K H x t) (e : PySem.W.kitOne X.K t c = some b) (h : ∀ tk, Q (.bool b) { s with toks := tk }) :
  wpAny (model X.prog X.w) A (call (.builtin "isinstance") [u, c]) Q E s := by
 cases ty with
 | non => cases (show u = Value.none from rx); exact PySem.W.kia_one PySem.W.kitx_none I.kIn True.intro e (fun z => nomatch z) h
 | bl y => cases (show u = Value.bool y from rx); exact PySem.W.kia_one PySem.W.kitx_bool I.kIn True.intro e (fun z => nomatch z) h
 | int i => obtain ⟨t, q⟩ := (show ∃ t, u = Value.int i t from rx); cases q; exact PySem.W.kia_one PySem.W.kitx_int I.kIn True.intro e (fun z => nomatch z) h
 | str y => obtain ⟨t, q⟩ := (show ∃ t, u = Value.str y t from rx); cases q; exact PySem.W.kia_one PySem.W.kitx_str I.kIn True.intro e (fun z => nomatch z) h
 | flt y => obtain ⟨t, q⟩ := (show ∃ t, u = Value.float y t from rx); cases q; exact PySem.W.kia_one PySem.W.kitx_float I.kIn True.intro e (fun z => nomatch z) h
 | @lst a xs ea =>
  cases (show u = Value.ref a from rx)
  obtain ⟨_, _, n, _, h1⟩ := (show ObjOk X.prog X.w H s.heap a (.lst xs) from I.hok a _ ea)
  exact PySem.W.kia_one PySem.W.kitx_list I.kIn ⟨_, h1, rfl⟩ e (fun z => nomatch z) h
 | @frz a ob xs ea =>
  cases (show u = Value.ref a from rx)
  obtain ⟨_, _, _, n, _, h1⟩ := (show ObjOk X.prog X.w H s.heap a (.frz ob (.lst xs)) from I.hok a _ ea)
  exact PySem.W.kia_one PySem.W.kitx_list I.kIn ⟨_, h1, rfl⟩ e (fun z => nomatch z) h
 | @tup a xs ea =>
  cases (show u = Value.ref a from rx)
  obtain ⟨_, _, _, p⟩ := (show ObjOk X.prog X.w H s.heap a (.tup xs) from I.hok a _ ea)
  obtain ⟨o, h1, h2, _⟩ := p
  exact PySem.W.kia_one PySem.W.kitx_tuple I.kIn ⟨o, h1, h2⟩ e (fun z => nomatch z) h
 | @dK a kvs ea =>
  cases (show u = Value.ref a from rx)
  obtain ⟨_, _, vs, _, p⟩ := (show ObjOk X.prog X.w H s.heap a (.dK kvs) from I.hok a _ ea)
  obtain ⟨o, es, ep, h1, h2, _⟩ := p
  exact PySem.W.kia_one PySem.W.kitx_dict I.kIn ⟨o, h1, h2.1⟩ e (fun z => nomatch z) h
 | @dT a kvs ea =>
  cases (show u = Value.ref a from rx)
  obtain ⟨_, _, xs, _, o, es, ep, h1, h2, _⟩ := (show ObjOk X.prog X.w H s.heap a (.dT kvs) from I.hok a _ ea)
  exact PySem.W.kia_one PySem.W.kitx_dict I.kIn ⟨o, h1, h2.1⟩ e (fun z => nomatch z) h
 | @ins a C dx fs ea cl ha hn htk hm =>
  cases (show u = Value.ref a from rx)
  obtain ⟨mA, O, _⟩ := ins_get I.hok ea
  obtain ⟨od, J, _⟩ := O.look
  exact PySem.W.kia_one (PySem.W.kitx_own (cl.get _) cl.hd ha hn htk hm) I.kIn J e (fun z => nomatch z) h
end
end L2
namespace L2
open PySem PySem.Spec PyProof.Rows
structure Room (k : Nat) (A : Around) : Prop where
 hd : A.handled = none
 dp : A.depth + 3 * k + 5 < recursionLimit
 un : A.units + 16 * k + 200 < cLine
theorem Room.mono {j k : Nat} {A : Around} (r : Room k A) (h : j ≤ k) : Room j A := ⟨r.hd, by have := r.dp; omega, by have := r.un; omega⟩
theorem Room.deeper {k : Nat} {A : Around} (r : Room (k + 1) A) (env : Env) : Room k (A.deeper env) :=
 ⟨r.hd, by have := r.dp; show A.depth + 1 + 3 * k + 5 < _; omega, by have := r.un; show A.units + 3 + 16 * k + 200 < _; omega⟩
theorem make_depth {A : Around} {C : Addr} {us : List Value} {kw : List (Str × Value)} : (A.under (.builtin "type.__call__" ⟨.ref C :: us, kw⟩)).depth = A.depth + 1 := by
 first | rfl | simp [Around.under, Code.weight, Code.isCreation, Code.isGuard, Code.isCaller, Code.frames, Code.isFrame, guardIds]
theorem make_units {A : Around} {C : Addr} {us : List Value} {kw : List (Str × Value)} : (A.under (.builtin "type.__call__" ⟨.ref C :: us, kw⟩)).units = A.units + 1 := by
 first | rfl | simp [Around.under, Code.cUnits, Code.frames, Code.isFrame]
theorem Room.make {k : Nat} {A : Around} (r : Room (k + 1) A) (C : Addr) (us : List Value) (kw : List (Str × Value)) : Room k (A.under (.builtin "type.__call__" ⟨.ref C :: us, kw⟩)) :=
 ⟨r.hd, by have := r.dp; rw [make_depth]; omega, by have := r.un; rw [make_units]; omega⟩
theorem Room.depth {k : Nat} {A : Around} (r : Room k A) : A.depth < recursionLimit := by have := r.dp; omega
theorem Room.units {k : Nat} {A : Around} (r : Room k A) : A.units + 64 < cLine := by have := r.un; omega
noncomputable def tNil : TA := fun _ H Q => Q [] H
noncomputable def tCons (ta : TE) (tr : TA) : TA := fun σ H Q => ta σ H fun x H1 => tr σ H1 fun xs H2 => Q (x :: xs) H2
section
variable {X : Cx} {e : Expr} {es : List Expr} {te : TE} {t : TA} {pos : Pos}
theorem pa_nil : PA X [] tNil := fun _ _ _ _ H Q I h => Calls.spliced_nil ⟨[], H, I, .nil, h⟩
theorem pa_cons (ha : PE X e te) (hr : PA X es t) (hs : starEach (e :: es) X.env = (false, eval e X.env) :: starEach es X.env := by rfl) : PA X (e :: es) (tCons te t) := by
 intro pos pins s σ H Q I h
 rw [hs]
 show wpAny _ _ (spliced ((false, eval e X.env) :: backTo pos (starEach es X.env))) _ _ s
 refine Calls.spliced_cons (thn (ha pins s σ H _ I h) fun u s1 ⟨x, H1, I1, r1, q1⟩ => ?_)
 exact thn (hr pos pins s1 σ H1 _ I1 q1) fun us s2 ⟨xs, H2, I2, r2, q2⟩ => ⟨x :: xs, H2, I2, .cons r1 r2, q2⟩
noncomputable def tTup (t : TA) : TE := fun σ H Q => t σ H fun xs H1 => xs.length ≤ sizeLine ∧ ∀ p, H1 p = none → Q (.ref p) (upd H1 p (.tup xs))
noncomputable def tLst (t : TA) : TE := fun σ H Q => t σ H fun xs H1 => xs.length ≤ sizeLine ∧ ∀ p, H1 p = none → Q (.ref p) (upd H1 p (.lst xs))
theorem pe_tup {x1} (h : PA X es t) : PE X (.Tuple es x1 pos) (tTup t) := by
 intro pins s σ H Q I hq
 refine wpAny_Tuple_spliced (thn (h pos pins s σ H _ I hq) fun us s1 ⟨xs, H1, I1, r, z, q⟩ => ⟨by rw [← r.length]; exact z, ?_⟩)
 have hf : H1 s1.heap.objs.size = none := I1.hok.fresh (Nat.le_refl _)
 refine ⟨.ref s1.heap.objs.size, upd H1 s1.heap.objs.size (.tup xs), I1.laid (t' := s1.toks) (fun b u e => Heap.get?_push_of_some _ e) (Nat.le_refl _) ?_, rfl, q _ hf⟩
 exact ⟨z, us, r, ⟨_, Heap.get?_push_size _ rfl, rfl, _, rfl⟩⟩
theorem pe_lst (h : PA X es t) : PE X (.List es pos) (tLst t) := by
 intro pins s σ H Q I hq
 refine wpAny_List_spliced (thn (h pos pins s σ H _ I hq) fun us s1 ⟨xs, H1, I1, r, z, q⟩ => ⟨by rw [← r.length]; exact z, ?_⟩)
 have hf : H1 s1.heap.objs.size = none := I1.hok.fresh (Nat.le_refl _)
 refine ⟨.ref s1.heap.objs.size, upd H1 s1.heap.objs.size (.lst xs), I1.laid (t' := s1.toks) (fun b u e => Heap.get?_push_of_some _ e) (Nat.le_refl _) ?_, rfl, q _ hf⟩
 exact ⟨z, us, 0, r, Heap.get?_push_size _ rfl⟩
end
noncomputable abbrev Sp := List V → Hp → VK → XK → Prop
noncomputable abbrev CXT := List Env → Hp → Shared → XK → Value → Shared → Prop
structure Env0 (P : Program) (w : World) (K : PySem.W.Frag) (mg : Str → Option Value) (base : Heap) (A : Around) (outer : List Env) (s : Shared) (H : Hp) : Prop where
 frames : A.frames = some outer
 mod : Mod K mg base
 bs : ∀ b o, base.get? b = some o → s.heap.get? b = some o ∧ H b = none
 bsz : base.objs.size ≤ s.heap.objs.size
 funs : s.heap.FunFrames base outer
 frf : ∀ b ∈ frs outer, H b = none
 hok : HOk P w H s.heap
 bare : AllBare s.gens
noncomputable def CE (outer : List Env) (P : Program) (w : World) (H : Hp) (s : Shared) (Q : VK) (u : Value) (s' : Shared) : Prop :=
 ∃ v H', s'.os = s.os ∧ AllBare s'.gens ∧ Un (frs outer) [] H H' s.heap s'.heap ∧ HOk P w H' s'.heap ∧ RelV v u ∧ Q v H'
noncomputable def CR (CX : CXT) (outer : List Env) (P : Program) (w : World) (H : Hp) (s : Shared) (Q : VK) (E : XK) (r : Result) (s' : Shared) : Prop :=
 match r with
 | .ok (.ret u) => CE outer P w H s Q u s'
 | .ok _ => False
 | .error e => CX outer H s E e s'
structure FnOk (P : Program) (w : World) (K : PySem.W.Frag) (mg : Str → Option Value) (base : Heap) (CX : CXT) (k : Nat) (f : Addr) (fd : FuncData) (ps : List Str) (sp : Sp) : Prop where
 len : ∀ vs H Q E, sp vs H Q E → vs.length = ps.length
 run : ∀ (A : Around) (outer : List Env) (s : Shared) (H : Hp) (args : Args) (us : List Value) (vs : List V) (Q : VK) (E : XK), Room k A → Env0 P w K mg base A outer s H → BindsTo s fd args (ps.zip us) → Vals vs us → sp vs H Q E →
  codeAny (model P w) A (.call (.ref f) args) (CR CX outer P w H s Q E) s
theorem Env0.make {P : Program} {w : World} {K : PySem.W.Frag} {mg : Str → Option Value} {base : Heap} {A : Around} {outer : List Env} {s : Shared} {H : Hp} (e : Env0 P w K mg base A outer s H) (C : Addr) (us : List Value) (kw : List (Str × Value)) :
  Env0 P w K mg base (A.under (.builtin "type.__call__" ⟨.ref C :: us, kw⟩)) outer s H := ⟨by first | exact e.frames | (simpa [Around.under, Code.envs, Code.isFrame, pushEnvs] using e.frames), e.mod, e.bs, e.bsz, e.funs, e.frf, e.hok, e.bare⟩
section
variable {X : Cx} {pins : List (Addr × Obj)} {σ : St} {H : Hp} {s s' : Shared}
theorem Inv.env0 (I : Inv X pins σ H s) : Env0 X.prog X.w X.K X.mg X.base X.A X.stack s H :=
 ⟨I.ok.frames, I.ok.mod, I.bs, Nat.le_trans I.ok.bsz I.sz, I.stack, I.stkFree, I.hok, I.bare⟩
theorem Inv.after {Q : VK} {u : Value} (I : Inv X pins σ H s) (h : CE X.stack X.prog X.w H s Q u s') : EP X pins σ Q u s' := by
 obtain ⟨v, H', os, bare, un, hok, r, q⟩ := h
 obtain ⟨hh, g, d, t, os'⟩ := s'
 obtain rfl : os' = s.os := os
 exact ⟨v, H', I.call (h' := hh) (g' := g) (d' := d) (t' := t) (ch := []) un hok bare (fun b z => absurd z (by simp)), r, q⟩
end
noncomputable def tCall (sp : Sp) (dvs : List V) (E : XK) (t : TA) : TE := fun σ H Q => t σ H fun vs H1 => sp (vs ++ dvs) H1 Q E
noncomputable def tMake (C : Addr) (sp : Sp) (dvs : List V) (E : XK) (t : TA) : TE := fun σ H Q => t σ H fun vs H1 => ∀ x dx, H1 x = none → H1 dx = none → dx ≠ x →
 sp (.ref x :: (vs ++ dvs)) (upd (upd H1 dx (.own x)) x (.ins C dx [])) (fun v H2 => v = .non ∧ Q (.ref x) H2) E
noncomputable def Binds (K : PySem.W.Frag) (fd : FuncData) (ps : List Str) (ds : List Value) : Prop :=
 ∀ (s : Shared) (us : List Value), K.In s.heap → (us ++ ds).length = ps.length → BindsTo s fd ⟨us, []⟩ (ps.zip (us ++ ds))
theorem Binds.all {K : PySem.W.Frag} {fd : FuncData} {ps : List Str} (h : ∀ us : List Value, us.length = ps.length → bindArgs fd ⟨us, []⟩ = pure (ps.zip us)) : Binds K fd ps [] := fun s us _ hl => by
 rw [List.append_nil] at hl ⊢
 exact .of_eq (h us hl)
noncomputable def Passes (CX : CXT) (X : Cx) (E : XK) : Prop := ∀ (pins : List (Addr × Obj)) (σ : St) (H : Hp) (s : Shared) (e : Value) (s' : Shared), Inv X pins σ H s → CX X.stack H s E e s' → X.xe e s'
section
variable {X : Cx} {CX : CXT} {k : Nat} {f C : Addr} {fd : FuncData} {ps : List Str} {sp : Sp} {dvs : List V} {ds : List Value} {E : XK} {x m : Str} {p pos apos : Pos} {e o : Expr} {es : List Expr} {ta : TE} {t : TA}
theorem run_fn {pins : List (Addr × Obj)} {σ : St} {H : Hp} {s : Shared} {Q : VK} {us : List Value} {vs : List V} (F : FnOk X.prog X.w X.K X.mg X.base CX k f fd ps sp) (hr : Room k X.A) (hb : Binds X.K fd ps ds) (hd : Vals dvs ds) (hx : Passes CX X E)
  (I : Inv X pins σ H s) (r : Vals vs us) (h : sp (vs ++ dvs) H Q E) : wpAny (model X.prog X.w) X.A (call (.ref f) us) (EP X pins σ Q) X.xe s := by
 have r2 : Vals (vs ++ dvs) (us ++ ds) := r.append hd
 have hl : (us ++ ds).length = ps.length := by rw [← r2.length]; exact F.len _ _ _ _ h
 refine wpAny_call (codeAny_mono (F.run X.A X.stack s H ⟨us, []⟩ (us ++ ds) (vs ++ dvs) Q E hr I.env0 (hb s us I.kIn hl) r2 h) fun r s' hq => ?_)
 cases r with
 | error e => exact hx pins σ H s e s' I hq
 | ok fl =>
  cases fl with
  | ret u => exact I.after hq
  | next => exact False.elim hq
  | brk => exact False.elim hq
  | cont => exact False.elim hq
theorem pe_call (F : FnOk X.prog X.w X.K X.mg X.base CX k f fd ps sp) (hr : Room k X.A) (hg : Gl X x) (hm : X.mg x = some (.ref f)) (hk : PySem.W.keepIn X.K (.ref f) = true) (hb : Binds X.K fd ps ds) (hd : Vals dvs ds) (hx : Passes CX X E)
  (ha : PA X (e :: es) t) (hdb : (x == ("__debug__" : Str)) = false := by decide) (he : starEach (e :: es) X.env = (false, eval e X.env) :: starEach es X.env := by rfl) (hpl : (backTo pos (starEach es X.env)).any (·.1) = false := by rfl) :
  PE X (.Call (.Name x p) (e :: es) [] pos) (tCall sp dvs E t) := by
 intro pins s σ H Q I h
 refine wpAny_Call_Name_kw (ld_glob I hg hm ?_ hdb)
 refine PySem.W.callWith_K (h₀ := X.base) I.ok.mod.kin hk (thn (ha pos pins s σ H _ I h) fun us s1 ⟨vs, H1, I1, r, q⟩ => ⟨I1.kIn, ?_⟩) he hpl
 exact run_fn F hr hb hd hx I1 r q
structure Mk (K : PySem.W.Frag) (C f : Addr) : Prop where
 makes : PySem.W.makesIn K C = true
 init : PySem.W.findIn K (.ref C) "__init__" = some (some (.ref f))
 fn : PySem.W.isFn K (.ref f) = true
 kp : PySem.W.keepIn K (.ref C) = true
theorem run_make {pins : List (Addr × Obj)} {σ : St} {H : Hp} {s : Shared} {Q : VK} {us : List Value} {vs : List V} (M : Mk X.K C f) (F : FnOk X.prog X.w X.K X.mg X.base CX k f fd ps sp) (hr : Room (k + 1) X.A) (hb : Binds X.K fd ps ds) (hd : Vals dvs ds)
  (hx : Passes CX X E) (I : Inv X pins σ H s) (r : Vals vs us)
  (h : ∀ x dx, H x = none → H dx = none → dx ≠ x → sp (.ref x :: (vs ++ dvs)) (upd (upd H dx (.own x)) x (.ins C dx [])) (fun v H2 => v = .non ∧ Q (.ref x) H2) E) :
  wpAny (model X.prog X.w) X.A (call (.ref C) us) (EP X pins σ Q) X.xe s := by
 have hq := h (s.heap.objs.size + 1) s.heap.objs.size (I.hok.fresh (Nat.le_succ _)) (I.hok.fresh (Nat.le_refl _)) (Nat.ne_of_lt (Nat.lt_succ_self _))
 have I2 := Inv.made (C := C) I
 have r2 : Vals (V.ref (s.heap.objs.size + 1) :: (vs ++ dvs)) (Value.ref (s.heap.objs.size + 1) :: (us ++ ds)) := .cons rfl (r.append hd)
 have hl : (Value.ref (s.heap.objs.size + 1) :: us ++ ds).length = ps.length := by
  have e := r2.length
  rw [F.len _ _ _ _ hq] at e
  exact e.symm
 refine wpAny_call (make_map (f := f) I.kIn M.makes M.init (beq_iff_eq.mp M.fn) (codeAny_mono (F.run _ X.stack _ _ ⟨Value.ref (s.heap.objs.size + 1) :: us, []⟩ (Value.ref (s.heap.objs.size + 1) :: (us ++ ds)) _ _ E (hr.make C us [])
  (I2.env0.make C us []) (hb _ (Value.ref (s.heap.objs.size + 1) :: us) I2.kIn hl) r2 hq) fun r s' hq' => ?_))
 cases r with
 | error e => exact hx pins σ _ _ e s' I2 hq'
 | ok fl =>
  cases fl with
  | ret u =>
   obtain ⟨v, H', I3, rv, ev, q3⟩ := I2.after hq'
   subst ev
   exact ⟨rv, ⟨V.ref (s.heap.objs.size + 1), H', I3, rfl, q3⟩⟩
  | next => exact False.elim hq'
  | brk => exact False.elim hq'
  | cont => exact False.elim hq'
theorem pe_make (M : Mk X.K C f) (F : FnOk X.prog X.w X.K X.mg X.base CX k f fd ps sp) (hr : Room (k + 1) X.A) (hg : Gl X x) (hm : X.mg x = some (.ref C)) (hb : Binds X.K fd ps ds) (hd : Vals dvs ds) (hx : Passes CX X E)
  (ha : PA X (e :: es) t) (hdb : (x == ("__debug__" : Str)) = false := by decide) (he : starEach (e :: es) X.env = (false, eval e X.env) :: starEach es X.env := by rfl) (hpl : (backTo pos (starEach es X.env)).any (·.1) = false := by rfl) :
  PE X (.Call (.Name x p) (e :: es) [] pos) (tMake C sp dvs E t) := by
 intro pins s σ H Q I h
 refine wpAny_Call_Name_kw (ld_glob I hg hm ?_ hdb)
 refine PySem.W.callWith_K (h₀ := X.base) I.ok.mod.kin M.kp (thn (ha pos pins s σ H _ I h) fun us s1 ⟨vs, H1, I1, r, q⟩ => ⟨I1.kIn, ?_⟩) he hpl
 exact run_make M F hr hb hd hx I1 r q
end
section
variable {X : Cx} {CX : CXT} {k : Nat} {f C : Addr} {fd : FuncData} {ps ks : List Str} {sp : Sp} {E : XK} {x m : Str} {p pos apos kpos : Pos} {e o : Expr} {es : List Expr} {kws : List Keyword} {te ta : TE} {t tk : TA} {nm : Option Str}
variable {g : List Value → List Value → List Value} {gV : List V → List V → List V}
end
structure FnScope (N P : List Str) (sc : Scope) : Prop where
 kind : sc.kind = .function
 co : sc.isCoroutine = false
 gen : sc.isGenerator = false
 nd : N.Nodup
 pre : N.take P.length = P
 par : ∀ x ∈ P, sc.names.lookup x = some .local ∨ sc.names.lookup x = some .cell
 nofree : ∀ y ∈ sc.names, y.2 ≠ .free
theorem bindL_out {kindOf : Str → Option NameKind} {x : Str} : ∀ {binds : List (Str × Value)} {m : Str → Option Value}, (∀ v, (x, v) ∉ binds) → bindL kindOf binds m x = m x
 | [], _, _ => rfl
 | (n, v) :: r, m, h => by
  unfold bindL
  rw [bindL_out fun w hw => h w (List.mem_cons_of_mem _ hw)]
  split
  ·have : x ≠ n := by rintro rfl; exact h v List.mem_cons_self
   simp [this]
  ·rfl
theorem bindC_out {kindOf : Str → Option NameKind} {x : Str} : ∀ {binds : List (Str × Value)} {m : Str → Option Value}, (∀ v, (x, v) ∉ binds) → bindC kindOf binds m x = m x
 | [], _, _ => rfl
 | (n, v) :: r, m, h => by
  unfold bindC
  rw [bindC_out fun w hw => h w (List.mem_cons_of_mem _ hw)]
  split
  ·rfl
  ·have : x ≠ n := by rintro rfl; exact h v List.mem_cons_self
   simp [this]
theorem bindL_get {kindOf : Str → Option NameKind} {x : Str} {v : Value} : ∀ {P : List Str} {vs : List Value} {i : Nat} {m : Str → Option Value}, P.Nodup → P[i]? = some x → vs[i]? = some v → kindOf x = some .local →
  bindL kindOf (P.zip vs) m x = some v
 | [], _, _, _, _, h, _, _ => by simp at h
 | _ :: _, [], _, _, _, _, h, _ => by simp at h
 | p :: P, w :: vs, 0, m, nd, h1, h2, hk => by
  simp at h1 h2; subst h1; subst h2
  show bindL kindOf ((p, w) :: P.zip vs) m p = _
  unfold bindL
  rw [bindL_out fun v hv => (List.nodup_cons.mp nd).1 (List.of_mem_zip hv).1, if_pos hk]
  simp
 | p :: P, w :: vs, i + 1, m, nd, h1, h2, hk => by
  show bindL kindOf ((p, w) :: P.zip vs) m x = _
  unfold bindL
  exact bindL_get (i := i) (List.nodup_cons.mp nd).2 (by simpa using h1) (by simpa using h2) hk
theorem bindC_get {kindOf : Str → Option NameKind} {x : Str} {v : Value} : ∀ {P : List Str} {vs : List Value} {i : Nat} {m : Str → Option Value}, P.Nodup → P[i]? = some x → vs[i]? = some v → kindOf x ≠ some .local →
  bindC kindOf (P.zip vs) m x = some v
 | [], _, _, _, _, h, _, _ => by simp at h
 | _ :: _, [], _, _, _, _, h, _ => by simp at h
 | p :: P, w :: vs, 0, m, nd, h1, h2, hk => by
  simp at h1 h2; subst h1; subst h2
  show bindC kindOf ((p, w) :: P.zip vs) m p = _
  unfold bindC
  rw [bindC_out fun v hv => (List.nodup_cons.mp nd).1 (List.of_mem_zip hv).1, if_neg hk]
  simp
 | p :: P, w :: vs, i + 1, m, nd, h1, h2, hk => by
  show bindC kindOf ((p, w) :: P.zip vs) m x = _
  unfold bindC
  exact bindC_get (i := i) (List.nodup_cons.mp nd).2 (by simpa using h1) (by simpa using h2) hk
noncomputable def start (N : List Str) (vs : List V) : St := vs.map some ++ List.replicate (N.length - vs.length) none
noncomputable def cxOf (CX : CXT) (P : Program) (w : World) (K : PySem.W.Frag) (mg : Str → Option Value) (base : Heap) (N : List Str) (qual : Str) (scope : Scope) (f : Addr) (cd : Value) (A : Around) (outer : List Env) (s : Shared) (H : Hp) (E : XK) : Cx where
 prog := P
 w := w
 K := K
 mg := mg
 base := base
 A := A.deeper (envOfC qual scope s.heap.objs.size f cd)
 N := N
 s₀ := s
 H₀ := H
 env := envOfC qual scope s.heap.objs.size f cd
 outer := outer
 stack := envOfC qual scope s.heap.objs.size f cd :: outer
 ex := []
 calm := true
 fn := fun _ => true
 pn := []
 xe := fun e s' => wpAny (model P w) (A.deeper (envOfC qual scope s.heap.objs.size f cd)) (leaving (envOfC qual scope s.heap.objs.size f cd) e) (fun _ s'' => CX outer H s E e s'') (fun e' s'' => CX outer H s E e' s'') s'
theorem cell_has {sc : Scope} {n : Nat} {x : Str} (h : sc.names.lookup x = some .cell) : ∃ c, (cellsFrom n sc.names []).lookup x = some c := by
 have q := PySem.W.cellsFrom_some sc.names n [] (.inl h)
 exact Option.isSome_iff_exists.mp q
theorem inv_start {CX : CXT} {P : Program} {w : World} {K : PySem.W.Frag} {mg : Str → Option Value} {base : Heap} {N ps : List Str} {qual : Str} {scope : Scope} {f : Addr} {cd : Value} {A : Around} {outer : List Env} {s s1 : Shared} {H : Hp} {E : XK} {us : List Value} {vs : List V}
  (S : FnScope N ps scope) (hd : A.handled = none) (e0 : Env0 P w K mg base A outer s H) (hl : vs.length = ps.length) (r : Vals vs us)
  (x : InCallC s s.heap.objs.size (bindL (envOfC qual scope s.heap.objs.size f cd).kindOf (ps.zip us) fun _ => none) (cellsFrom (s.heap.objs.size + 1) scope.names []) (bindC (envOfC qual scope s.heap.objs.size f cd).kindOf (ps.zip us) fun _ => none) s1) :
  Inv (cxOf CX P w K mg base N qual scope f cd A outer s H E) [] (start N vs) H s1 := by
 have hpl : ps.length ≤ N.length := by have := congrArg List.length S.pre; rw [List.length_take] at this; omega
 obtain ⟨h1, tk, rfl, hk⟩ := x.done
 have noA : ∀ b : Addr, b ∉ (cxOf CX P w K mg base N qual scope f cd A outer s H E).ex := fun b z => absurd (show b ∈ ([] : List Addr) from z) (by simp)
 refine ⟨⟨e0.mod, S.kind, rfl, rfl, Nat.le_refl _, fun y z c h1 h2 => ?_, fun y hy => ?_, fun y c _ h => ?_, fun _ => hd, Around.frames_deeper e0.frames, .inr ⟨rfl, rfl⟩, fun b z => absurd z (noA b), e0.bs, e0.bsz, fun b _ _ => noA b, fun b z => absurd z (noA b), e0.funs, e0.frf⟩,
  rfl, e0.bare, Un.kept hk, ⟨_, x.toInCall.ns, fun i y v h1 h2 h3 => ?_⟩, fun y c h => ⟨_, x.cell y c h⟩, e0.hok.fresh (Nat.le_refl _), fun y c h => ?_, fun p hp => absurd (show p ∈ ([] : List (Addr × Obj)) from hp) (by simp), e0.hok.kept hk, ?_⟩
 ·exact name_of_addr x.apart (PySem.mem_of_lookup h1) (PySem.mem_of_lookup h2)
 ·have hy : scope.names.lookup y = some .cell ∨ scope.names.lookup y = some .free := hy
  rcases hy with hy | hy
  ·exact cell_has hy
  ·exact absurd rfl (S.nofree _ (PySem.mem_of_lookup hy))
 ·exact Nat.le_of_lt (x.above y c (PySem.mem_of_lookup h))
 ·have hi : i < vs.length := by
   unfold start at h2
   by_cases hi : i < vs.length
   ·exact hi
   ·rw [List.getElem?_append_right (by simpa using hi)] at h2
    rw [List.getElem?_replicate] at h2
    split at h2 <;> cases h2
  have ha : vs[i]? = some v := by
   unfold start at h2
   rw [List.getElem?_append_left (by simpa using hi), List.getElem?_map] at h2
   cases e : vs[i]? with
   | none => rw [e] at h2; cases h2
   | some a => rw [e] at h2; cases h2; rfl
  obtain ⟨u, hu, rv⟩ := r.get ha
  have hp : ps[i]? = some y := by
   rw [← S.pre, List.getElem?_take_of_lt (by omega)]; exact h1
  have ndP : ps.Nodup := by rw [← S.pre]; exact S.nd.sublist (List.take_sublist _ _)
  refine ⟨u, rv, ?_⟩
  rcases S.par y (List.mem_of_getElem? hp) with k | k
  ·exact .inl ⟨k, bindL_get ndP hp hu k⟩
  ·obtain ⟨c, e⟩ := cell_has (n := s.heap.objs.size + 1) k
   refine .inr ⟨.inl k, c, e, ?_⟩
   have q := x.cell y c e
   rw [bindC_get ndP hp hu (by show scope.names.lookup y ≠ _; rw [k]; decide)] at q
   exact q
 ·exact e0.hok.fresh (Nat.le_of_lt (x.above y c (PySem.mem_of_lookup h)))
 ·unfold start
  show _ = N.length
  rw [List.length_append, List.length_map, List.length_replicate]
  omega
theorem fn_of {CX : CXT} {P : Program} {w : World} {K : PySem.W.Frag} {mg : Str → Option Value} {base : Heap} {k : Nat} {f : Addr} {name qual : Str} {params : Arguments} {body : List Stmt} {scope : Scope} {dV kV doc pm cdv ct oc : Value} {an od : Option Addr}
  {osl : Array (Option Value)} {N ps : List Str} {sp : Sp} (lk : K.lookup f = some ⟨oc, od, .func (PySem.W.fnOf name qual params body scope dV kV doc pm an cdv ct), osl⟩) (hcd : PySem.W.codeIn K cdv qual = true) (S : FnScope N ps scope)
  (len : ∀ vs H Q E, sp vs H Q E → vs.length = ps.length)
  (hbody : ∀ (A : Around) (outer : List Env) (s : Shared) (H : Hp) (vs : List V) (Q : VK) (E : XK), Room k (A.deeper (envOfC qual scope s.heap.objs.size f cdv)) → sp vs H Q E →
   ∃ t, PSs (cxOf CX P w K mg base N qual scope f cdv A outer s H E) body t ∧ t { nx := fun _ H' => Q .non H', rt := Q } (start N vs) H) :
  FnOk P w K mg base CX (k + 1) f (PySem.W.fnOf name qual params body scope dV kV doc pm an cdv ct) ps sp := by
 refine ⟨len, fun A outer s H args us vs Q E hr e0 hb r hsp => ?_⟩
 have hl := len _ _ _ _ hsp
 have KX : K.In s.heap := e0.mod.kin.keeps fun b o e => (e0.bs b o e).1
 have lim : s.heap.NoLimit := e0.mod.nolimit.keeps fun b o e => (e0.bs b o e).1
 have hkind : ∀ y ∈ ps.zip us, scope.names.lookup y.1 = some .local ∨ (scope.names.lookup y.1 = some .cell ∧ ((cellsFrom (s.heap.objs.size + 1) scope.names []).lookup y.1).isSome = true) := fun ⟨n, v⟩ hy => by
  rcases S.par n (List.of_mem_zip hy).1 with q | q
  ·exact .inl q
  ·exact .inr ⟨q, PySem.W.cellsFrom_some _ _ _ (.inl q)⟩
 refine codeAny_call_function hr.depth (KX _ _ lk) rfl S.co S.gen rfl (PySem.W.codeRec_of KX hcd) (hb _ _ _ _ ?_)
 refine wpAny_newFunctionEnv_cells S.kind hkind fun env he s1 x => ?_
 subst he
 refine ⟨lim.keeps x.toInCall.keep, codeAny_func ?_⟩
 obtain ⟨t, ht, hq⟩ := hbody A outer s H vs Q E (hr.deeper _) hsp
 have I : Inv (cxOf CX P w K mg base N qual scope f cdv A outer s H E) [] (start N vs) H s1 := inv_start S hr.hd e0 hl r x
 refine wpAny_mono (ht [] s1 (start N vs) H _ I hq) (fun fl s' hs => ?_) fun e s' hs => hs
 have fin : ∀ {σ' : St} {H' : Hp} {v : V} {u : Value}, Inv (cxOf CX P w K mg base N qual scope f cdv A outer s H E) [] σ' H' s' → RelV v u → Q v H' → CE outer P w H s Q u s' :=
  fun {σ' H' v u} J rv q => ⟨v, H', J.os, J.bare, J.base, J.hok, rv, q⟩
 cases fl with
 | ret u =>
  obtain ⟨v, σ', H', J, rv, q⟩ := hs
  exact fin J rv q
 | next =>
  obtain ⟨σ', H', J, q⟩ := hs
  exact fin (v := V.non) (u := Value.none) J rfl q
 | brk =>
  obtain ⟨_, _, _, q⟩ := hs
  exact False.elim q
 | cont =>
  obtain ⟨_, _, _, q⟩ := hs
  exact False.elim q
end L2
namespace L2
open PySem PySem.Spec PyProof.Rows
section
variable {X : Cx} {x : Str} {p pos : Pos} {e : Expr} {es : List Expr} {t : TA} {id T : String} {r : List V → Hp → VK → Prop}
noncomputable def tCB (r : List V → Hp → VK → Prop) (t : TA) : TE := fun σ H Q => t σ H fun vs H1 => r vs H1 Q
theorem pe_callB (hc : CallR X (.builtin id) r) (hg : Gl X x) (hm : X.mg x = none) (hv : bootBuiltins x = some (.builtin id)) (ha : PA X (e :: es) t) (hn : x ≠ "__name__" := by decide) (hdb : (x == ("__debug__" : Str)) = false := by decide)
  (he : starEach (e :: es) X.env = (false, eval e X.env) :: starEach es X.env := by rfl) (hpl : (backTo pos (starEach es X.env)).any (·.1) = false := by rfl) : PE X (.Call (.Name x p) (e :: es) [] pos) (tCB r t) := by
 intro pins s σ H Q I h
 refine wpAny_Call_Name_kw (ld_blt I hg hm hv ?_ hn hdb)
 exact PyProof.Rows.callWith_builtin1 (thn (ha pos pins s σ H _ I h) fun us s1 ⟨vs, H1, I1, r1, q1⟩ => hc pins s1 σ H1 vs us Q I1 r1 q1) he hpl
theorem pe_callTy (hc : CallR X (.type T) r) (hg : Gl X x) (hm : X.mg x = none) (hv : bootBuiltins x = some (.type T)) (ha : PA X (e :: es) t) (hn : x ≠ "__name__" := by decide) (hdb : (x == ("__debug__" : Str)) = false := by decide)
  (he : starEach (e :: es) X.env = (false, eval e X.env) :: starEach es X.env := by rfl) (hpl : (backTo pos (starEach es X.env)).any (·.1) = false := by rfl) : PE X (.Call (.Name x p) (e :: es) [] pos) (tCB r t) := by
 intro pins s σ H Q I h
 refine wpAny_Call_Name_kw (ld_blt I hg hm hv ?_ hn hdb)
 exact PyProof.Rows.callWith_type1 (thn (ha pos pins s σ H _ I h) fun us s1 ⟨vs, H1, I1, r1, q1⟩ => hc pins s1 σ H1 vs us Q I1 r1 q1) he hpl
end
end L2
namespace HT
open PySem PyProof.Rows
section
open PySem.SeqAt
open PySem.AutoSeq1 (wpAny_loadPart')
open PySem.MeetsSeq PySem.MeetsSeq2 PySem.MeetsSeq3
end
section
variable {prog : Program} {w : World} {A : Around} {E : Value → Shared → Prop} {s : Shared}
theorem cat_tup {t b : Addr} {vs ws : List Value} {Q : Value → Shared → Prop} (ht : IsTup s.heap t vs.toArray) (hb : IsTup s.heap b ws.toArray) (hv : vs ≠ [])
  (h1 : ws = [] → Q (.ref t) s) (h2 : ws ≠ [] → Q (.ref s.heap.objs.size) { s with heap := s.heap.push { cls := .type "tuple", data := .seq (vs ++ ws).toArray } })
  (hsz : vs.length + ws.length ≤ sizeLine) : wpAny (model prog w) A (binaryOp .Add (.ref t) (.ref b)) Q E s := by
 obtain ⟨⟨cls, dd, data, sl⟩, ho, hc, n, hd⟩ := id ht
 obtain ⟨⟨cls2, dd2, data2, sl2⟩, ho2, hc2, n2, hd2⟩ := id hb
 simp only at hc hd hc2 hd2
 subst hc hd hc2 hd2
 have e : vs.toArray ++ ws.toArray = (vs ++ ws).toArray := by simp
 by_cases hw : ws = []
 ·exact concat_meets ⟨_, ho, rfl⟩ ⟨_, ho2, rfl⟩ noFill_tuple_add seq_tuple_add PySem.F.slot_tuple_add PySem.F.entry_tuple_add (PySem.F.args_tuple_add_2 _ _)
   (tuple_addW1 t b vs.toArray ws.toArray n n2 dd dd2 sl sl2 (by simpa using hv) (by simp [hw])) ⟨ho, ho2, h1 hw⟩
 ·refine concat_meets ⟨_, ho, rfl⟩ ⟨_, ho2, rfl⟩ noFill_tuple_add seq_tuple_add PySem.F.slot_tuple_add PySem.F.entry_tuple_add (PySem.F.args_tuple_add_2 _ _)
   (tuple_addW2 t b vs.toArray ws.toArray n n2 dd dd2 sl sl2 (by simpa using hv) (by simpa using hw) (by rw [List.size_toArray, List.size_toArray]; exact hsz)) ⟨ho, ho2, ?_⟩
  rw [e]
  exact h2 hw
noncomputable def sIx (n d : Nat) : Option Int → Nat
 | none => d
 | some v => if v < 0 then (v + (n : Int)).toNat else min v.toNat n
theorem sIx_le (n d : Nat) (hd : d ≤ n) (o : Option Int) : sIx n d o ≤ n := by
 cases o with
 | none => exact hd
 | some v =>
  show (if v < 0 then (v + (n : Int)).toNat else min v.toNat n) ≤ n
  by_cases hv : v < 0
  ·rw [if_pos hv]; omega
  ·rw [if_neg hv]; exact Nat.min_le_right _ _
theorem clip_eq (v : Int) (n d : Nat) : (if v < 0 then max (v + (n : Int)) 0 else min v (n : Int)) = ((sIx n d (some v) : Nat) : Int) := by
 show (if v < 0 then max (v + (n : Int)) 0 else min v (n : Int)) = (((if v < 0 then (v + (n : Int)).toNat else min v.toNat n) : Nat) : Int)
 by_cases hv : v < 0
 ·simp only [if_pos hv]; omega
 ·simp only [if_neg hv]; omega
theorem adjust_gen (lo hi : Option Int) (n : Nat) : Builtin.Slice.sliceAdjust lo hi 1 (n : Int) = (((sIx n 0 lo : Nat) : Int), ((sIx n n hi : Nat) : Int)) := by
 have h1 : ¬ ((1 : Int) < 0) := by omega
 unfold Builtin.Slice.sliceAdjust
 simp only [h1, if_false]
 refine Prod.ext ?_ ?_
 ·cases lo with
  | none => rfl
  | some v => exact clip_eq v n 0
 ·cases hi with
  | none => rfl
  | some v => exact clip_eq v n n
theorem places_gen (i j : Nat) : Builtin.Slice.slicePlaces (i : Int) (j : Int) 1 = j - i := by
 unfold Builtin.Slice.slicePlaces
 have h1 : (1 : Int) > 0 := by omega
 simp only [h1, if_true, Int.ediv_one]
 split <;> omega
theorem slicePart_ {v : Value} {o : Option Int} {Q : Option Int → Shared → Prop} (p : IsPart v o) (h : Q o s) : wpAny (model prog w) A (Builtin.Slice.slicePartIndex v) Q E s := by
 cases p with
 | none => exact slicePart_none h
 | int i t => exact slicePart_int h
theorem sliceApplied_gen {sl : Addr} {vl vu : Value} {lo hi : Option Int} {n : Nat} {Q : Int × Int × Nat → Shared → Prop} (hs : s.heap.IsSliceOf sl vl vu .none) (pl : IsPart vl lo) (pu : IsPart vu hi)
  (h : Q (((sIx n 0 lo : Nat) : Int), 1, sIx n n hi - sIx n 0 lo) s) : wpAny (model prog w) A (Builtin.Slice.sliceApplied (.ref sl) (pure (n : Int))) Q E s := by
 obtain ⟨os, hos, hcs, hds⟩ := id hs
 unfold Builtin.Slice.sliceApplied Builtin.Slice.sliceFields
 refine wpAny_bind (wpAny_bind (wpAny_field hos hds (x := vl) rfl (wpAny_bind (wpAny_field hos hds (x := vu) rfl (wpAny_bind (wpAny_field hos hds (x := .none) rfl (wpAny_pure ?_)))))))
 refine wpAny_bind (slicePart_none ?_)
 show wpAny _ _ (if ((1 : Int) == 0) = true then _ else _) _ _ s
 rw [if_neg (by decide)]
 refine wpAny_bind (slicePart_ pl (wpAny_bind (slicePart_ pu (wpAny_bind (wpAny_pure ?_)))))
 show wpAny _ _ (match Builtin.Slice.sliceAdjust lo hi 1 (n : Int) with | (lo, hi) => pure (lo, (1 : Int), Builtin.Slice.slicePlaces lo hi 1)) _ _ s
 rw [adjust_gen lo hi n]
 show wpAny _ _ (pure (((sIx n 0 lo : Nat) : Int), (1 : Int), Builtin.Slice.slicePlaces ((sIx n 0 lo : Nat) : Int) ((sIx n n hi : Nat) : Int) 1)) _ _ s
 rw [places_gen]
 exact wpAny_pure h
theorem pick_gen (xs : Array Value) (i k : Nat) : ((List.range k).filterMap fun (m : Nat) => xs[((i : Int) + (m : Int) * 1).toNat]?).toArray = ((xs.toList.drop i).take k).toArray := by
 have e : (fun (m : Nat) => xs[((i : Int) + (m : Int) * 1).toNat]?) = fun m => xs[i + m]? := by
  funext m
  have : ((i : Int) + (m : Int) * 1).toNat = i + m := by omega
  rw [this]
 rw [e]
 have := pick_run xs i k
 rw [List.filterMap_map] at this
 have e2 : ((fun x => xs[x]?) ∘ fun x => i + x) = fun m => xs[i + m]? := rfl
 rw [e2] at this
 rw [this]
theorem getItem_tuple_cut {t sl : Addr} {items : Array Value} {vl vu : Value} {lo hi : Option Int} {Q : Value → Shared → Prop} (ht : IsTup s.heap t items) (hs : s.heap.IsSliceOf sl vl vu .none) (pl : IsPart vl lo) (pu : IsPart vu hi)
  (hw : ¬ (sIx items.size 0 lo = 0 ∧ sIx items.size items.size hi = items.size))
  (h : Q (.ref s.heap.objs.size) { s with heap := s.heap.push { cls := .type "tuple", data := .seq ((items.toList.drop (sIx items.size 0 lo)).take (sIx items.size items.size hi - sIx items.size 0 lo)).toArray } })
  (hsz : items.size ≤ sizeLine) : wpAny (model prog w) A (getItem (.ref t) (.ref sl)) Q E s := by
 have htake : sizeOk (.seq ((items.toList.drop (sIx items.size 0 lo)).take (sIx items.size items.size hi - sIx items.size 0 lo)).toArray) := by
  show ((items.toList.drop (sIx items.size 0 lo)).take (sIx items.size items.size hi - sIx items.size 0 lo)).toArray.size ≤ sizeLine
  rw [List.size_toArray, List.length_take, List.length_drop, Array.length_toList]
  omega
 have hj : sIx items.size items.size hi ≤ items.size := sIx_le _ _ (Nat.le_refl _) hi
 obtain ⟨os, hos, hcs, hds⟩ := id hs
 have hTs : s.TypeIs (.ref sl) "slice" := ⟨os, hos, hcs⟩
 unfold getItem
 try with_reducible refine wpAny_holding ?_
 first | refine wpAny_bind (wpAny_pure ?_) | skip
 refine wpAny_bind (wpAny_sequenceKey ht.typeIs (by decide) ?_)
 refine wpAny_bind (wpAny_callSpecial?_slot (name := Str.ofString "__getitem__") ht.typeIs PyProof.Rows.slot_tuple_getitem
  (wpAny_call_entry PyProof.Rows.slot_tuple_getitem ht.typeIs entry_tuple_getitem ?_ (args_tuple_getitem _ _)))
 show wpAny _ _ (Builtin.Tuple.tupleItemsOf (.ref t) >>= _) _ _ s
 refine wpAny_bind (tupleItemsOf_ ht ?_)
 refine wpAny_bind (wpAny_typeOf hTs ?_)
 rw [if_pos (by decide)]
 refine wpAny_bind (sliceApplied_gen hs pl pu ?_)
 have hno : ¬ ((((sIx items.size 0 lo : Nat) : Int) == 0 && (1 : Int) == 1 && (sIx items.size items.size hi - sIx items.size 0 lo) == items.size) = true) := by
  intro q
  rw [Bool.and_eq_true, Bool.and_eq_true] at q
  have q1 : ((sIx items.size 0 lo : Nat) : Int) = 0 := eq_of_beq q.1.1
  have q2 : sIx items.size items.size hi - sIx items.size 0 lo = items.size := eq_of_beq q.2
  exact hw ⟨by omega, by omega⟩
 show wpAny _ _ (if (((sIx items.size 0 lo : Nat) : Int) == 0 && (1 : Int) == 1 && (sIx items.size items.size hi - sIx items.size 0 lo) == items.size) = true then _ else _) _ _ s
 rw [if_neg hno, pick_gen]
 first
  | exact wpAny_bind (m := Builtin.Tuple.tupleExact _) (wpAny_newObj_type (wpAny_pure ⟨_, rfl, wpAny_pure h⟩) htake)
  | exact wpAny_bind (m := Builtin.Tuple.tupleExact _) (wpAny_newObj_type (wpAny_bind (wpAny_pure (wpAny_pure ⟨_, rfl, wpAny_pure h⟩))) htake)
  | exact wpAny_bind (wpAny_bind (m := Builtin.Tuple.tupleExact _) (wpAny_newObj_type (wpAny_pure (wpAny_pure ⟨_, rfl, wpAny_pure h⟩)) htake))
  | exact wpAny_bind (wpAny_bind (m := Builtin.Tuple.tupleExact _) (wpAny_newObj_type (wpAny_pure ⟨_, rfl, wpAny_pure h⟩) htake))
end
end HT
namespace L2
open PySem PySem.Spec PyProof.Rows
noncomputable abbrev TO := St → Hp → (Option Int → Hp → Prop) → Prop
noncomputable def PO (X : Cx) (e : Option Expr) (t : TO) : Prop :=
 ∀ (pins : List (Addr × Obj)) (s : Shared) (σ : St) (H : Hp) (Q : Option Int → Hp → Prop), Inv X pins σ H s → t σ H Q →
  wpAny (model X.prog X.w) X.A (evalPart e X.env) (fun u s' => ∃ o H', Inv X pins σ H' s' ∧ IsPart u o ∧ Q o H') X.xe s
noncomputable def tNoPart : TO := fun _ H Q => Q none H
noncomputable def tPart (t : TE) : TO := fun σ H Q => t σ H fun x H1 => ∃ i, x = .int i ∧ Q (some i) H1
section
variable {X : Cx} {e : Expr} {te : TE} {lo hi : Option Expr} {tl th : TO} {pos p2 : Pos}
theorem po_none : PO X none tNoPart := by
 intro pins s σ H Q I h
 rw [evalPart_none]
 exact wpAny_pure ⟨none, H, I, .none, h⟩
theorem po_some (h : PE X e te) : PO X (some e) (tPart te) := by
 intro pins s σ H Q I hw
 rw [evalPart_some]
 refine thn (h pins s σ H _ I hw) fun u s1 ⟨x, H1, I1, r1, q1⟩ => ?_
 obtain ⟨i, rfl, q⟩ := q1
 obtain ⟨t, rfl⟩ := r1
 exact ⟨some i, H1, I1, .int i t, q⟩
noncomputable def SlR (X : Cx) (r : V → Option Int → Option Int → Hp → VK → Prop) : Prop :=
 ∀ (pins : List (Addr × Obj)) (s : Shared) (σ : St) (H : Hp) (x : V) (v vl vu : Value) (lo hi : Option Int) (sl : Addr) (Q : VK), Inv X pins σ H s → RelV x v → s.heap.IsSliceOf sl vl vu .none → IsPart vl lo → IsPart vu hi → r x lo hi H Q →
  ∃ T id, typeLookup (.type T) "__getitem__" = pure (some (.builtin id)) ∧ s.TypeIs v T ∧ wpAny (model X.prog X.w) X.A (getItem v (.ref sl)) (EP X pins σ Q) X.xe s
theorem SlR.or {r r' : V → Option Int → Option Int → Hp → VK → Prop} (h : SlR X r) (h' : SlR X r') : SlR X (fun x lo hi H Q => r x lo hi H Q ∨ r' x lo hi H Q) := by
 intro pins s σ H x v vl vu lo hi sl Q I rx hs pl pu q
 rcases q with q | q
 ·exact h pins s σ H x v vl vu lo hi sl Q I rx hs pl pu q
 ·exact h' pins s σ H x v vl vu lo hi sl Q I rx hs pl pu q
noncomputable def tSl (r : V → Option Int → Option Int → Hp → VK → Prop) (te : TE) (tl th : TO) : TE := fun σ H Q => te σ H fun x H1 => tl σ H1 fun l H2 => th σ H2 fun u H3 => r x l u H3 Q
theorem pe_slice {r : V → Option Int → Option Int → Hp → VK → Prop} (hr : SlR X r) (he : PE X e te) (hl : PO X lo tl) (hu : PO X hi th) : PE X (.Subscript e (.Slice lo hi none p2) pos) (tSl r te tl th) := by
 intro pins s σ H Q I h
 refine Subscript_ (thn (he pins s σ H _ I h) fun v s1 ⟨x, H1, I1, r1, q1⟩ => ?_)
 refine wpAny_Slice (thn (hl pins s1 σ H1 _ I1 q1) fun vl s2 ⟨l, H2, I2, pl, q2⟩ => thn (hu pins s2 σ H2 _ I2 q2) fun vu s3 ⟨u, H3, I3, pu, q3⟩ => ?_)
 rw [evalPart_none]
 refine wpAny_pure ?_
 have I4 : Inv X pins σ H3 { s3 with heap := s3.heap.push { cls := .type "slice", data := .fields #[vl, vu, .none] } } := I3.kept (t' := s3.toks) fun b ob q => Heap.get?_push_of_some _ q
 obtain ⟨T, id, hT, ht, hg⟩ := hr pins { s3 with heap := s3.heap.push { cls := .type "slice", data := .fields #[vl, vu, .none] } } σ H3 x v vl vu l u s3.heap.objs.size Q I4 r1 (Heap.IsSliceOf.new ..) pl pu q3
 show wpAny (model X.prog X.w) X.A (subscriptTail e (.Slice lo hi none p2) v (.ref s3.heap.objs.size)) (EP X pins σ Q) X.xe { s3 with heap := s3.heap.push { cls := .type "slice", data := .fields #[vl, vu, .none] } }
 exact tail_any (ops := [.ref s3.heap.objs.size, v]) ht hT hg (by with_unfolding_all rfl)
noncomputable def cutV (xs : List V) (lo hi : Option Int) : List V := (xs.drop (HT.sIx xs.length 0 lo)).take (HT.sIx xs.length xs.length hi - HT.sIx xs.length 0 lo)
theorem cutV_length (xs : List V) (lo hi : Option Int) : (cutV xs lo hi).length ≤ xs.length := by
 unfold cutV
 rw [List.length_take, List.length_drop]
 omega
noncomputable def rSlT (K : PySem.W.Frag) : V → Option Int → Option Int → Hp → VK → Prop := fun x lo hi H Q => ∃ a xs, x = .ref a ∧ SqT K H a xs ∧
 ¬ (HT.sIx xs.length 0 lo = 0 ∧ HT.sIx xs.length xs.length hi = xs.length) ∧ ∀ p, H p = none → Q (.ref p) (upd H p (.tup (cutV xs lo hi)))
theorem sl_tup : SlR X (rSlT X.K) := by
 intro pins s σ H x v vl vu lo hi sl Q I rx hs pl pu h
 obtain ⟨a, xs, rfl, hx, hw, q⟩ := h
 cases rx
 obtain ⟨its, r, ht, hz⟩ := I.tuple hx
 have hlen : its.toArray.size = xs.length := by rw [List.size_toArray]; exact r.length.symm
 refine ⟨"tuple", _, PyProof.Rows.slot_tuple_getitem.lookup, ht.typeIs, ?_⟩
 refine HT.getItem_tuple_cut ht hs pl pu (by rw [hlen]; exact hw) ?_ (by rw [hlen]; exact hz)
 rw [hlen]
 refine ⟨.ref s.heap.objs.size, _, I.laid (t' := s.toks) (o := .tup (cutV xs lo hi)) (fun b ob q => Heap.get?_push_of_some _ q) (Nat.le_refl _) ?_, rfl, q _ (I.hok.fresh (Nat.le_refl _))⟩
 exact ⟨Nat.le_trans (cutV_length xs lo hi) hz, _, (r.drop (HT.sIx xs.length 0 lo)).take (HT.sIx xs.length xs.length hi - HT.sIx xs.length 0 lo), IsTup.new _ _⟩
noncomputable def rCatT (K : PySem.W.Frag) : R2 := fun x y H Q => ∃ a b xs ys, x = .ref a ∧ y = .ref b ∧ SqT K H a xs ∧ SqT K H b ys ∧ xs ≠ [] ∧ xs.length + ys.length ≤ sizeLine ∧
 (ys = [] → Q (.ref a) H) ∧ (ys ≠ [] → ∀ p, H p = none → Q (.ref p) (upd H p (.tup (xs ++ ys))))
theorem Vals.nil_iff {xs : List V} {us : List Value} (r : Vals xs us) : us = [] ↔ xs = [] := by
 cases r with
 | nil => simp
 | cons _ _ => simp
theorem op_catT : OpR X (binaryOp .Add) (rCatT X.K) := by
 intro pins s σ H x y v u Q I rx ry h
 obtain ⟨a, b, xs, ys, rfl, rfl, ha, hb, hx, hz, q1, q2⟩ := h
 cases rx
 cases ry
 obtain ⟨its, r1, p1, _⟩ := I.tuple ha
 obtain ⟨its2, r2, p2, _⟩ := I.tuple hb
 refine HT.cat_tup p1 p2 (fun z => hx (r1.nil_iff.mp z)) (fun z => ⟨.ref a, H, I, rfl, q1 (r2.nil_iff.mp z)⟩) (fun z => ?_) (by rw [← r1.length, ← r2.length]; exact hz)
 refine ⟨.ref s.heap.objs.size, _, I.laid (t' := s.toks) (o := .tup (xs ++ ys)) (fun b ob q => Heap.get?_push_of_some _ q) (Nat.le_refl _) ?_, rfl, q2 (fun w => z (r2.nil_iff.mpr w)) _ (I.hok.fresh (Nat.le_refl _))⟩
 exact ⟨by rw [List.length_append]; exact hz, _, r1.append r2, IsTup.new _ _⟩
end
end L2
namespace L2
open PySem PySem.Spec PyProof.Rows
noncomputable def ixN (n : Nat) (i : Int) : Option Nat := if 0 ≤ i then (if i < n then some i.toNat else none) else if -(n : Int) ≤ i then some (i + n).toNat else none
noncomputable def atI {α : Type} (xs : List α) (i : Int) : Option α := (ixN xs.length i).bind fun j => xs[j]?
theorem ixN_seq {n : Nat} {i : Int} {j : Nat} (h : ixN n i = some j) : seqIndex? i n = some j ∧ j < n ∧ -(n : Int) ≤ i ∧ i < n := by
 unfold ixN at h
 by_cases h0 : 0 ≤ i
 ·rw [if_pos h0] at h
  by_cases h1 : i < n
  ·rw [if_pos h1] at h
   have e : i.toNat = j := Option.some.inj h
   exact ⟨by rw [seqIndex_of h0 h1, e], by omega, by omega, h1⟩
  ·rw [if_neg h1] at h; cases h
 ·rw [if_neg h0] at h
  by_cases h1 : -(n : Int) ≤ i
  ·rw [if_pos h1] at h
   have e : (i + n).toNat = j := Option.some.inj h
   exact ⟨by rw [seqIndex_neg (by omega) h1, e], by omega, h1, by omega⟩
  ·rw [if_neg h1] at h; cases h
theorem atI_get {α : Type} {xs : List α} {i : Int} {v : α} (h : atI xs i = some v) : ∃ j, seqIndex? i xs.length = some j ∧ xs[j]? = some v ∧ j < xs.length ∧ -(xs.length : Int) ≤ i ∧ i < xs.length := by
 unfold atI at h
 cases e : ixN xs.length i with
 | none => rw [e] at h; cases h
 | some j =>
  rw [e] at h
  obtain ⟨h1, h2, h3, h4⟩ := ixN_seq e
  exact ⟨j, h1, h, h2, h3, h4⟩
theorem atI_nat {α : Type} {xs : List α} {j : Nat} {v : α} (h : xs[j]? = some v) : atI xs (j : Int) = some v := by
 have hj : j < xs.length := (List.getElem?_eq_some_iff.mp h).1
 have e : ixN xs.length (j : Int) = some j := by
  unfold ixN
  rw [if_pos (by omega), if_pos (by omega)]; simp
 unfold atI; rw [e]; exact h
theorem atI_last {α : Type} (xs : List α) (v : α) : atI (xs ++ [v]) (-1) = some v := by
 have hl : (xs ++ [v]).length = xs.length + 1 := by simp
 have e : ixN (xs ++ [v]).length (-1) = some xs.length := by
  unfold ixN
  rw [hl, if_neg (by decide), if_pos (by omega)]
  congr 1
  omega
 unfold atI
 rw [e]
 show (xs ++ [v])[xs.length]? = some v
 simp
noncomputable def PlainIx (b : Expr) : Prop := ∀ o i, subscripted b false o i = operate [o, i] (getItem o i)
noncomputable def IxR (X : Cx) (r : R2) : Prop :=
 ∀ (value slice : Expr) (pins : List (Addr × Obj)) (s : Shared) (σ : St) (H : Hp) (x y : V) (v u : Value) (Q : VK), Inv X pins σ H s → RelV x v → RelV y u → r x y H Q →
  subscripted slice false v u = operate [v, u] (getItem v u) → wpAny (model X.prog X.w) X.A (subscriptTail value slice v u) (EP X pins σ Q) X.xe s
noncomputable def MtR (X : Cx) (id : String) (r : V → List V → Hp → VK → Prop) : Prop :=
 ∀ (pins : List (Addr × Obj)) (s : Shared) (σ : St) (H : Hp) (x : V) (xs : List V) (v : Value) (us : List Value) (Q : VK), Inv X pins σ H s → RelV x v → Vals xs us → r x xs H Q →
  wpAny (model X.prog X.w) X.A (call (.builtin id) (v :: us)) (EP X pins σ Q) X.xe s
section
variable {X : Cx} {a b : Expr} {ta tb : TE} {pos : Pos}
theorem IxR.or {r r' : R2} (h : IxR X r) (h' : IxR X r') : IxR X (fun x y H Q => r x y H Q ∨ r' x y H Q) := by
 intro value slice pins s σ H x y v u Q I rx ry q hs
 rcases q with q | q
 ·exact h value slice pins s σ H x y v u Q I rx ry q hs
 ·exact h' value slice pins s σ H x y v u Q I rx ry q hs
theorem pe_ix {r : R2} (hr : IxR X r) (ha : PE X a ta) (hb : PE X b tb) (hs : PlainIx b) : PE X (.Subscript a b pos) (tOp r ta tb) := by
 intro pins s σ H Q I h
 exact Subscript_ (binT ha hb I h fun v u s2 x y H2 I2 rx ry q => hr a b pins s2 σ H2 x y v u Q I2 rx ry q (hs _ _))
noncomputable def rIxL (K : PySem.W.Frag) : R2 := fun x y H Q => ∃ p xs i v, x = .ref p ∧ y = .int i ∧ SqL K H p xs ∧ atI xs i = some v ∧ Q v H
noncomputable def rIxT (K : PySem.W.Frag) : R2 := fun x y H Q => ∃ p xs i v, x = .ref p ∧ y = .int i ∧ SqT K H p xs ∧ atI xs i = some v ∧ Q v H
noncomputable def rIxS : R2 := fun x y H Q => ∃ z i c, x = .str z ∧ y = .int i ∧ z.length ≤ sizeLine ∧ atI z.cps.toList i = some c ∧ Q (.str ⟨#[c]⟩) H
theorem ix_list : IxR X (rIxL X.K) := by
 intro value slice pins s σ H x y v u Q I rx ry h hs
 obtain ⟨p, xs, i, z, rfl, rfl, hq, he, q⟩ := h
 cases rx
 obtain ⟨t, rfl⟩ := ry
 obtain ⟨its, r, pl, hz⟩ := I.list hq
 obtain ⟨j, h1, h2, h3, h4, h5⟩ := atI_get he
 obtain ⟨w, ew, rw'⟩ := r.get h2
 have hl := r.length
 have hn := line63
 have fin : EP X pins σ Q w s := ⟨z, H, I, rw', q⟩
 by_cases h0 : 0 ≤ i
 ·have hj : i.toNat = j := by
   rw [seqIndex_of h0 h5] at h1
   exact Option.some.inj h1
  exact item_listR pl.isList h0 (by omega) (by rw [hj]; simpa using ew) fin hs
 ·have hj : (i + (its.toArray.size : Int)).toNat = j := by
   rw [seqIndex_neg (by omega) h4] at h1
   rw [List.size_toArray, ← hl]
   exact Option.some.inj h1
  exact subscriptTail_builtinR (x := w) pl.isList.typeIs slot_list_getitem.lookup
   (wpAny_getItem_list_neg (Q := fun r s' => r = w ∧ EP X pins σ Q r s') pl.isList (by omega) (by rw [List.size_toArray] <;> omega) (by omega) (by rw [hj]; simpa using ew) ⟨rfl, fin⟩) hs
theorem ix_tup : IxR X (rIxT X.K) := by
 intro value slice pins s σ H x y v u Q I rx ry h hs
 obtain ⟨p, xs, i, z, rfl, rfl, hq, he, q⟩ := h
 cases rx
 obtain ⟨t, rfl⟩ := ry
 obtain ⟨its, r, pl, hz⟩ := I.tuple hq
 obtain ⟨j, h1, h2, h3, h4, h5⟩ := atI_get he
 obtain ⟨w, ew, rw'⟩ := r.get h2
 have hl := r.length
 have hn := line63
 have fin : EP X pins σ Q w s := ⟨z, H, I, rw', q⟩
 exact subscriptTail_builtinR (x := w) pl.typeIs slot_tuple_getitem.lookup
  (getItem_tuple (j := j) (Q := fun r s' => r = w ∧ EP X pins σ Q r s') pl (by omega) (by omega) (by rw [List.size_toArray, ← hl]; exact h1) (by simpa using ew) ⟨rfl, fin⟩) hs
theorem ix_str : IxR X rIxS := by
 intro value slice pins s σ H x y v u Q I rx ry h hs
 obtain ⟨z, i, c, rfl, rfl, hz, he, q⟩ := h
 obtain ⟨t, rfl⟩ := rx
 obtain ⟨t', rfl⟩ := ry
 obtain ⟨j, h1, h2, h3, h4, h5⟩ := atI_get he
 have hl : z.cps.toList.length = z.length := by simp [Str.length]
 rw [hl] at h1 h4 h5
 have hn := line63
 exact tail_any (typeIs_str s z t) slot_str_getitem.lookup (getItem_str (c := c) (by
  have e1 : decide (i < -(2 ^ 63 : Int)) = false := decide_eq_false (by omega)
  have e2 : decide (i ≥ 2 ^ 63) = false := decide_eq_false (by omega)
  rw [e1, e2, Bool.or_false]) (by rw [h1]; simpa using h2) ⟨.str ⟨#[c]⟩, H, I.tok _, ⟨_, rfl⟩, q⟩) hs
noncomputable def rIx (K : PySem.W.Frag) : R2 := fun x y H Q => rIxL K x y H Q ∨ rIxT K x y H Q ∨ rIxS x y H Q
theorem ix_seq : IxR X (rIx X.K) := ix_list.or (ix_tup.or ix_str)
theorem mapSeq_set (its : List Value) (n j : Nat) (u : Value) : Obj.mapSeq (·.setIfInBounds j u) { cls := .type "list", data := .seq its.toArray n } = { cls := .type "list", data := .seq (its.set j u).toArray n } := by
 simp [Obj.mapSeq]
theorem Inv.lst {pins : List (Addr × Obj)} {σ : St} {H : Hp} {s : Shared} {p : Addr} {xs : List V} (I : Inv X pins σ H s) (h : H p = some (.lst xs)) :
  ∃ (its : List Value) (n : Nat), Vals xs its ∧ s.heap.get? p = some { cls := .type "list", data := .seq its.toArray n } ∧ xs.length ≤ sizeLine := by
 obtain ⟨z, its, n, r, e⟩ := I.hok p _ h
 exact ⟨its, n, r, e, z⟩
theorem Inv.lstUpd {pins : List (Addr × Obj)} {σ : St} {H : Hp} {s : Shared} {p : Addr} {xs ys : List V} {its its' : List Value} {n n' : Nat} {f : Obj → Obj} (I : Inv X pins σ H s) (h : H p = some (.lst xs))
  (ho : s.heap.get? p = some { cls := .type "list", data := .seq its.toArray n }) (hf : f { cls := .type "list", data := .seq its.toArray n } = { cls := .type "list", data := .seq its'.toArray n' }) (r : Vals ys its') (hz : ys.length ≤ sizeLine) (t : Nat) :
  Inv X pins σ (upd H p (.lst ys)) { s with heap := s.heap.update p f, toks := t } := by
 have e : (s.heap.update p f).get? p = some { cls := .type "list", data := .seq its'.toArray n' } := by
  rw [Heap.get?_update_self f ho (by rw [hf] <;> rfl), hf]
 refine I.write (x := p) (e := p) (by rw [h]; trivial) (.inl rfl) (fun b u hb q => (Heap.get?_update_other _ _ (Ne.symm hb)).trans q) ⟨_, e⟩ ?_
 exact ⟨hz, its', n', r, e⟩
noncomputable def rSetL : V → V → V → Hp → (Hp → Prop) → Prop := fun o i v H Q => ∃ p xs k j, o = .ref p ∧ i = .int k ∧ H p = some (.lst xs) ∧ ixN xs.length k = some j ∧ Q (upd H p (.lst (xs.set j v)))
theorem set_list : PSet X rSetL := by
 intro pins s σ H o i v ov iv u Q I ro ri rv h
 obtain ⟨p, xs, k, j, rfl, rfl, hp, hj, q⟩ := h
 cases ro
 obtain ⟨t, rfl⟩ := ri
 obtain ⟨its, n, r, ho, hz⟩ := I.lst hp
 obtain ⟨h1, h2, h3, h4⟩ := ixN_seq hj
 have hl := r.length
 have hn := line63
 have I' : Inv X pins σ (upd H p (.lst (xs.set j v))) { s with heap := s.heap.update p (Obj.mapSeq (·.setIfInBounds j u)) } :=
  I.lstUpd hp ho (mapSeq_set its n j u) (r.set rv j) (by rw [List.length_set]; exact hz) s.toks
 by_cases h0 : 0 ≤ k
 ·have hk : k.toNat = j := by
   rw [seqIndex_of h0 h4] at h1
   exact Option.some.inj h1
  exact PySem.W.ki_setAt ho h0 (by omega) (by rw [List.size_toArray, ← hl]; exact h4) (by rw [hk]; exact ⟨_, I', q⟩)
 ·have hk : (k + (its.toArray.size : Int)).toNat = j := by
   rw [seqIndex_neg (by omega) h3] at h1
   rw [List.size_toArray, ← hl]
   exact Option.some.inj h1
  exact PySem.W.ki_setBack ho (by omega) (by rw [List.size_toArray, ← hl]; exact h3) (by omega) (by rw [hk]; exact ⟨_, I', q⟩)
theorem slice_bounds (lo hi : Option Int) (n : Nat) : (sliceBounds lo hi none n).1 = ((HT.sIx n 0 lo : Nat) : Int) ∧ (sliceBounds lo hi none n).2.1 = ((HT.sIx n n hi : Nat) : Int) ∧ (sliceBounds lo hi none n).2.2 = 1 := by
 refine ⟨?_, ?_, rfl⟩
 ·cases lo with
  | none => simp [sliceBounds, HT.sIx]
  | some i =>
   simp only [sliceBounds, HT.sIx, Option.getD_none, show (1 : Int) > 0 by decide, if_true]
   by_cases h : i < 0
   ·simp only [h, if_true] <;> omega
   ·simp only [h, if_false] <;> omega
 ·cases hi with
  | none => simp [sliceBounds, HT.sIx]
  | some i =>
   simp only [sliceBounds, HT.sIx, Option.getD_none, show (1 : Int) > 0 by decide, if_true]
   by_cases h : i < 0
   ·simp only [h, if_true] <;> omega
   ·simp only [h, if_false] <;> omega
theorem slicePick_cut (its : List Value) (lo hi : Option Int) : slicePick its.toArray lo hi none = ((its.drop (HT.sIx its.length 0 lo)).take (HT.sIx its.length its.length hi - HT.sIx its.length 0 lo)).toArray := by
 obtain ⟨h1, h2, h3⟩ := slice_bounds lo hi its.toArray.size
 unfold slicePick
 rw [h1, h2, h3]
 simp only [sliceRange_one, pick_run, List.size_toArray] <;> rfl
noncomputable def rSlL (K : PySem.W.Frag) : V → Option Int → Option Int → Hp → VK → Prop := fun x lo hi H Q => ∃ a xs, x = .ref a ∧ SqL K H a xs ∧ ∀ p, H p = none → Q (.ref p) (upd H p (.lst (cutV xs lo hi)))
theorem sl_list : SlR X (rSlL X.K) := by
 intro pins s σ H x v vl vu lo hi sl Q I rx hs pl pu h
 obtain ⟨a, xs, rfl, hx, q⟩ := h
 cases rx
 obtain ⟨its, r, ht, hz⟩ := I.list hx
 have hlen := r.length
 refine ⟨"list", _, slot_list_getitem.lookup, ht.isList.typeIs, ?_⟩
 refine wpAny_getItem_list_slice ht.isList hs pl pu .none (by simp) ?_ (by rw [List.size_toArray] <;> omega)
 rw [slicePick_cut, ← hlen]
 refine ⟨.ref s.heap.objs.size, _, I.laid (t' := s.toks) (o := .lst (cutV xs lo hi)) (fun b ob q => Heap.get?_push_of_some _ q) (Nat.le_refl _) ?_, rfl, q _ (I.hok.fresh (Nat.le_refl _))⟩
 exact ⟨Nat.le_trans (cutV_length xs lo hi) hz, _, 0, (r.drop (HT.sIx xs.length 0 lo)).take (HT.sIx xs.length xs.length hi - HT.sIx xs.length 0 lo), Heap.get?_push_size _ rfl⟩
noncomputable def flatV : V → Bool
 | .non => true
 | .bl _ => true
 | .int _ => true
 | .str _ => true
 | _ => false
noncomputable def eqV : V → V → Bool
 | .non, .non => true
 | .bl a, .bl b => a == b
 | .bl a, .int b => (if a then 1 else 0) == b
 | .int a, .bl b => a == (if b then 1 else 0)
 | .int a, .int b => a == b
 | .str a, .str b => a == b
 | _, _ => false
theorem eqAt_V {A : Around} {s : Shared} {y x : V} {u v : Value} (ry : RelV y u) (rx : RelV x v) (fy : flatV y = true) (fx : flatV x = true) : SeqAt.EqAt A s u v (eqV y x) := by
 cases y with
 | non =>
  cases ry
  cases x with
  | non => cases rx; exact SeqAt.EqAt.same _
  | bl b => cases rx; exact SeqAt.EqAt.none_bool b
  | int b => obtain ⟨t, rfl⟩ := rx; exact SeqAt.EqAt.none_int b t
  | str b => obtain ⟨t, rfl⟩ := rx; exact SeqAt.EqAt.none_str b t
  | _ => exact absurd (show false = true from fx) Bool.false_ne_true
 | bl a =>
  cases ry
  cases x with
  | non => cases rx; exact SeqAt.EqAt.bool_none a
  | bl b => cases rx; exact SeqAt.EqAt.bool_bool a b
  | int b => obtain ⟨t, rfl⟩ := rx; exact SeqAt.EqAt.bool_int a b t
  | str b => obtain ⟨t, rfl⟩ := rx; exact SeqAt.EqAt.bool_str a b t
  | _ => exact absurd (show false = true from fx) Bool.false_ne_true
 | int a =>
  obtain ⟨t', rfl⟩ := ry
  cases x with
  | non => cases rx; exact SeqAt.EqAt.int_none a t'
  | bl b => cases rx; exact SeqAt.EqAt.int_bool a t' b
  | int b => obtain ⟨t, rfl⟩ := rx; exact SeqAt.EqAt.int_int a t' b t
  | str b => obtain ⟨t, rfl⟩ := rx; exact SeqAt.EqAt.int_str a t' b t
  | _ => exact absurd (show false = true from fx) Bool.false_ne_true
 | str a =>
  obtain ⟨t', rfl⟩ := ry
  cases x with
  | non => cases rx; exact SeqAt.EqAt.str_none a t'
  | bl b => cases rx; exact SeqAt.EqAt.str_bool a t' b
  | int b => obtain ⟨t, rfl⟩ := rx; exact SeqAt.EqAt.str_int a t' b t
  | str b => obtain ⟨t, rfl⟩ := rx; exact SeqAt.EqAt.str_str a t' b t
  | _ => exact absurd (show false = true from fx) Bool.false_ne_true
 | _ => exact absurd (show false = true from fy) Bool.false_ne_true
noncomputable def eqU (x : V) (u : Value) : Bool := match u with
 | .none => eqV .non x
 | .bool b => eqV (.bl b) x
 | .int i _ => eqV (.int i) x
 | .str z _ => eqV (.str z) x
 | _ => false
theorem eqU_of {x y : V} {u : Value} (r : RelV y u) (f : flatV y = true) : eqU x u = eqV y x := by
 cases y with
 | non => cases r; rfl
 | bl b => cases r; rfl
 | int i => obtain ⟨t, rfl⟩ := r; rfl
 | str z => obtain ⟨t, rfl⟩ := r; rfl
 | _ => exact absurd (show false = true from f) Bool.false_ne_true
theorem any_eqU {x : V} : ∀ {xs : List V} {us : List Value}, Vals xs us → xs.all flatV = true → us.any (eqU x) = xs.any fun y => eqV y x
 | _, _, .nil, _ => rfl
 | y :: xs, u :: us, .cons r t, f => by
  rw [List.all_cons, Bool.and_eq_true] at f
  rw [List.any_cons, List.any_cons, eqU_of r f.1, any_eqU t f.2]
theorem mem_eqAt {A : Around} {s : Shared} {x : V} {v : Value} (rx : RelV x v) (fx : flatV x = true) : ∀ {xs : List V} {us : List Value}, Vals xs us → xs.all flatV = true → ∀ u ∈ us, SeqAt.EqAt A s u v (eqU x u)
 | _, _, .nil, _ => fun u hu => by cases hu
 | y :: xs, u :: us, .cons r t, f => fun u' hu => by
  rw [List.all_cons, Bool.and_eq_true] at f
  rcases List.mem_cons.mp hu with rfl | hu
  ·rw [eqU_of r f.1]; exact eqAt_V r rx f.1 fx
  ·exact mem_eqAt rx fx t f.2 u' hu
noncomputable def inV (x : V) (xs : List V) : Bool := xs.any fun y => eqV y x
noncomputable def rIn (K : PySem.W.Frag) (neg : Bool) : R2 := fun x y H Q => ∃ p xs, y = .ref p ∧ (SqL K H p xs ∨ SqT K H p xs) ∧ flatV x = true ∧ xs.all flatV = true ∧ Q (.bl (if neg then !inV x xs else inV x xs)) H
theorem op_in_seq : OpR X (compareOp .In) (rIn X.K false) := by
 intro pins s σ H x y v u Q I rx ry h
 obtain ⟨p, xs, rfl, hq, fx, fs, q⟩ := h
 cases ry
 rcases hq with hq | hq
 ·obtain ⟨its, r, pl, hz⟩ := I.list hq
  refine SeqAt.in_listAt (eqU x) pl.isList (fun w hw => mem_eqAt rx fx r fs w (by simpa using hw)) ⟨.bl _, H, I, rfl, ?_⟩
  rw [show its.toArray.any (eqU x) = its.any (eqU x) by simp, any_eqU r fs]
  exact q
 ·obtain ⟨its, r, pl, hz⟩ := I.tuple hq
  refine SeqAt.in_tupleAt (eqU x) pl (fun w hw => mem_eqAt rx fx r fs w (by simpa using hw)) ⟨.bl _, H, I, rfl, ?_⟩
  rw [show its.toArray.any (eqU x) = its.any (eqU x) by simp, any_eqU r fs]
  exact q
theorem call_len_seq : CallR X (.builtin "len") (fun xs H Q => ∃ p ys, xs = [.ref p] ∧ (SqL X.K H p ys ∨ SqT X.K H p ys) ∧ Q (.int ys.length) H) := by
 intro pins s σ H xs us Q I r h
 obtain ⟨p, ys, rfl, hq, q⟩ := h
 obtain ⟨u, rfl, rx⟩ := vals1 r
 cases rx
 have hn := line63
 rcases hq with hq | hq
 ·obtain ⟨its, r', pl, hz⟩ := I.list hq
  have hlen := r'.length
  exact Calls.call_len_list pl.isList (by simp only [List.size_toArray] <;> omega) ⟨.int ys.length, H, I.tok _, ⟨s.toks + 1, by rw [List.size_toArray, hlen]⟩, q⟩
 ·obtain ⟨its, r', pl, hz⟩ := I.tuple hq
  have hlen := r'.length
  exact len_tuple pl (by simp only [List.size_toArray] <;> omega) ⟨.int ys.length, H, I.tok _, ⟨s.toks + 1, by rw [List.size_toArray, hlen]⟩, q⟩
theorem call_len_str : CallR X (.builtin "len") (fun xs H Q => ∃ z, xs = [.str z] ∧ z.length ≤ sizeLine ∧ Q (.int z.length) H) := by
 intro pins s σ H xs us Q I r h
 obtain ⟨z, rfl, hz, q⟩ := h
 obtain ⟨u, rfl, t, rfl⟩ := vals1 r
 have hn := line63
 exact len_str (by omega) ⟨.int z.length, H, I.tok _, ⟨_, rfl⟩, q⟩
theorem CallR.or {f : Value} {r r' : List V → Hp → VK → Prop} (h : CallR X f r) (h' : CallR X f r') : CallR X f (fun xs H Q => r xs H Q ∨ r' xs H Q) := by
 intro pins s σ H xs us Q I rs q
 rcases q with q | q
 ·exact h pins s σ H xs us Q I rs q
 ·exact h' pins s σ H xs us Q I rs q
theorem call_tuple_of : CallR X (.type "tuple") (fun xs H Q => ∃ p ys, xs = [.ref p] ∧ ((SqL X.K H p ys ∧ ∀ l, H l = none → Q (.ref l) (upd H l (.tup ys))) ∨ (SqT X.K H p ys ∧ Q (.ref p) H))) := by
 intro pins s σ H xs us Q I r h
 obtain ⟨p, ys, rfl, h⟩ := h
 obtain ⟨u, rfl, rx⟩ := vals1 r
 cases rx
 rcases h with ⟨hq, q⟩ | ⟨hq, q⟩
 ·obtain ⟨its, r', pl, hz⟩ := I.list hq
  have hlen := r'.length
  refine call_tuple_list pl.isList (fun h' kp => ?_) (by simp only [List.size_toArray] <;> omega)
  have I1 : Inv X pins σ H { s with heap := h' } := I.kept (t' := s.toks) kp
  have I2 : Inv X pins σ (upd H h'.objs.size (.tup ys)) { s with heap := h'.push { cls := .type "tuple", data := .seq its.toArray } } :=
   I1.laid (t' := s.toks) (fun b o e => Heap.get?_push_of_some _ e) (Nat.le_refl _) (show ObjOk X.prog X.w _ _ _ (.tup ys) from ⟨hz, its, r', IsTup.new _ _⟩)
  exact ⟨.ref h'.objs.size, _, I2, rfl, q _ (I1.hok.fresh (Nat.le_refl _))⟩
 ·obtain ⟨its, r', pl, hz⟩ := I.tuple hq
  exact call_tuple_same pl ⟨.ref p, H, I, rfl, q⟩
noncomputable def tyV (K : PySem.W.Frag) (T : String) (x : V) (H : Hp) : Prop := match x with
 | .str _ => T = "str"
 | .int _ => T = "int"
 | .ref p => (T = "list" ∧ ∃ xs, SqL K H p xs) ∨ (T = "tuple" ∧ ∃ o, K.lookup p = some o ∧ o.cls = .type "tuple" ∧ o.dict = none) ∨
   (T = "dict" ∧ ((∃ kvs, H p = some (.dK kvs)) ∨ ∃ kvs, H p = some (.dT kvs))) ∨ (T = "set" ∧ ∃ S n, H p = some (.set S n))
 | _ => False
theorem tyV_is {pins : List (Addr × Obj)} {σ : St} {H : Hp} {s : Shared} {T : String} {x : V} {v : Value} (I : Inv X pins σ H s) (r : RelV x v) (ty : tyV X.K T x H) :
  s.TypeIs v T ∧ ∀ a, v = .ref a → ∃ ob, s.heap.get? a = some ob ∧ ob.dict = none := by
 cases x with
 | str z =>
  obtain ⟨t, rfl⟩ := r
  cases (show T = "str" from ty)
  exact ⟨typeIs_str s z t, fun _ e => nomatch e⟩
 | int i =>
  obtain ⟨t, rfl⟩ := r
  cases (show T = "int" from ty)
  exact ⟨typeIs_int s i t, fun _ e => nomatch e⟩
 | ref p =>
  cases r
  rcases ty with ⟨rfl, xs, hq⟩ | ⟨rfl, o, hk, hc, hd⟩ | ⟨rfl, hk⟩ | ⟨rfl, S, n, hk⟩
  ·obtain ⟨its, _, pl, _⟩ := I.list hq
   refine ⟨pl.isList.typeIs, fun a e => ?_⟩
   cases e
   obtain ⟨o, n, e, c, hd, _⟩ := pl
   exact ⟨o, e, hd⟩
  ·refine ⟨⟨o, I.kIn p o hk, hc⟩, fun a e => ?_⟩
   cases e
   exact ⟨o, I.kIn _ o hk, hd⟩
  ·have z : ∃ o, s.heap.get? p = some o ∧ o.ExactDict := by
    rcases hk with ⟨kvs, hk⟩ | ⟨kvs, hk⟩
    ·obtain ⟨_, _, _, _, o, _, _, e, ex, _⟩ := I.hok p _ hk
     exact ⟨o, e, ex⟩
    ·obtain ⟨_, _, _, _, o, _, _, e, ex, _⟩ := I.hok p _ hk
     exact ⟨o, e, ex⟩
   obtain ⟨o, e, ex⟩ := z
   refine ⟨⟨o, e, ex.1⟩, fun a e2 => ?_⟩
   cases e2
   exact ⟨o, e, ex.2.1⟩
  ·obtain ⟨o, _, _, _, e, ex, _⟩ := I.hok p _ hk
   refine ⟨⟨o, e, ex.1⟩, fun a e2 => ?_⟩
   cases e2
   exact ⟨o, e, ex.2.1⟩
 | _ => exact False.elim ty
noncomputable def tBM0 (K : PySem.W.Frag) (T : String) (r : V → List V → Hp → VK → Prop) (to : TE) : TE := fun σ H Q => to σ H fun x H1 => tyV K T x H1 ∧ r x [] H1 Q
noncomputable def tBM (K : PySem.W.Frag) (T : String) (r : V → List V → Hp → VK → Prop) (to : TE) (t : TA) : TE := fun σ H Q => to σ H fun x H1 => tyV K T x H1 ∧ t σ H1 fun xs H2 => r x xs H2 Q
variable {o e : Expr} {es : List Expr} {to : TE} {t : TA} {name : Str} {apos cpos : Pos} {T id : String} {r : V → List V → Hp → VK → Prop}
theorem pe_bm (pa : PlainAttrs T) (slot : Slot T name id) (hty : typeOf (.builtin id) = pure (.type "method_descriptor")) (hm : MtR X id r) (ho : PE X o to) (ha : PA X (e :: es) t)
  (hbase : attributeBase o name X.env (eval o X.env) = eval o X.env := by rfl)
  (hfew : ((backTo cpos (starEach (e :: es) X.env)).all (fun x => !x.1) && (backToKw cpos (keywordEach [] X.env)).all (fun x => x.1.isSome)
   && decide ((e :: es).length + ([] : List Keyword).length + (if ([] : List Keyword).isEmpty then 0 else 1) < 30)) = true := by rfl)
  (hline : (apos.endLine == cpos.line) = true := by rfl) (hs : starEach (e :: es) X.env = (false, eval e X.env) :: starEach es X.env := by rfl) (hplain : (backTo cpos (starEach es X.env)).any (·.1) = false := by rfl) :
  PE X (.Call (.Attribute o name apos) (e :: es) [] cpos) (tBM X.K T r to t) := by
 intro pins s σ H Q I h
 refine wpAny_Call_method_late hbase hfew hline rfl (thn (ho pins s σ H _ I h) fun v s1 ⟨x, H1, I1, r1, ty, q1⟩ => ?_)
 obtain ⟨h1, h2⟩ := tyV_is I1 r1 ty
 refine ⟨T, id, pa, slot, hty, h1, h2, ?_⟩
 have hA := ha cpos pins s1 σ H1 _ I1 q1
 rw [hs] at hA ⊢
 refine Calls.callWith_builtin (by show (false || (backTo cpos (starEach es X.env)).any (·.1)) = false; rw [hplain] <;> rfl) (Calls.evalArgs_plain ?_)
 exact thn hA fun us s2 ⟨vs, H2, I2, r2, q2⟩ => hm pins s2 σ H2 x vs v us Q I2 r1 r2 q2
/- xs.append(e), list.index on a module's tuple .. are MtR facts of 06m -/
end
end L2
namespace L2
open PySem PySem.Spec PyProof.Rows
noncomputable def MtM (X : Cx) (id : String) (r : V → List V → Hp → VK → Prop) : Prop :=
 ∀ (pins : List (Addr × Obj)) (s : Shared) (σ : St) (H : Hp) (x : V) (xs : List V) (v : Value) (us : List Value) (Q : VK), Inv X pins σ H s → RelV x v → Vals xs us → r x xs H Q →
  wpAny (model X.prog X.w) X.A (call (.builtin id) (v :: us)) (EP X pins σ Q) X.xe s
theorem Vals.one : ∀ {x : V} {us : List Value}, Vals [x] us → ∃ u, us = [u] ∧ RelV x u
 | _, _, .cons r .nil => ⟨_, rfl, r⟩
section
variable {X : Cx} {pins : List (Addr × Obj)} {σ : St} {H : Hp} {s : Shared} {l b : Addr} {xs ys zs : List V}
theorem Inv.lset {its its' : List Value} {n : Nat} {f : Array Value → Array Value} {t' : Nat} (I : Inv X pins σ H s) (hH : H l = some (.lst xs))
  (e : s.heap.get? l = some { cls := .type "list", data := .seq its.toArray n }) (hf : f its.toArray = its'.toArray) (hv : Vals ys its') (hz : ys.length ≤ sizeLine) :
  Inv X pins σ (upd H l (.lst ys)) { s with heap := s.heap.update l (Obj.mapSeq f), toks := t' } := by
 have q := PySem.IsL.update e f
 rw [hf] at q
 refine I.write (x := l) (e := l) (by rw [hH]; exact trivial) (.inl rfl) (fun b' u hb hu => (Heap.get?_update_other s.heap (Obj.mapSeq f) (Ne.symm hb)).trans hu) ⟨_, q⟩ ?_
 exact ⟨hz, its', _, hv, q⟩
theorem Inv.lnew {its : List Value} {t' : Nat} (I : Inv X pins σ H s) (hv : Vals ys its) (hz : ys.length ≤ sizeLine) :
  Inv X pins σ (upd H s.heap.objs.size (.lst ys)) { s with heap := s.heap.push { cls := .type "list", data := .seq its.toArray }, toks := t' } :=
 I.laid (fun _ _ q => Heap.get?_push_of_some _ q) (Nat.le_refl _) ⟨hz, its, 0, hv, Heap.get?_push_size _ rfl⟩
theorem Inv.fresh (I : Inv X pins σ H s) : H s.heap.objs.size = none := I.hok.fresh (Nat.le_refl _)
theorem Inv.lstM (I : Inv X pins σ H s) (hH : H l = some (.lst xs)) : xs.length ≤ sizeLine ∧ ∃ (its : List Value) (n : Nat), Vals xs its ∧ xs.length = its.length ∧ s.heap.get? l = some { cls := .type "list", data := .seq its.toArray n } := by
 obtain ⟨z, its, n, r, e⟩ := I.hok l _ hH
 exact ⟨z, its, n, r, r.length, e⟩
theorem notLongL {n : Nat} (h : n ≤ sizeLine) : Builtin.List.listTooLong n = false := by
 unfold Builtin.List.listTooLong
 exact decide_eq_false (by omega)
end
section
variable {X : Cx}
noncomputable def rAppend : V → List V → Hp → VK → Prop := fun x vs H Q => ∃ l xs y, x = .ref l ∧ vs = [y] ∧ H l = some (.lst xs) ∧ xs.length < sizeLine ∧ Q .non (upd H l (.lst (xs ++ [y])))
theorem mt_append : MtM X "list.append" rAppend := by
 intro pins s σ H x vs v us Q I rx rv h
 obtain ⟨l, xs, y, rfl, rfl, hH, hz, q⟩ := h
 cases rx
 obtain ⟨u, rfl, ru⟩ := rv.one
 obtain ⟨z, its, n, r, hl, e⟩ := I.lstM hH
 refine call_meets F.slot_list_append ⟨_, e, rfl⟩ F.entry_list_append (F.args_list_append_2 _ _) (PySem.list_append l its.toArray n u (by rw [List.size_toArray]; omega)) ⟨e, ?_⟩
 refine ⟨.non, _, I.lset (its' := its ++ [u]) hH e (by simp) (r.append (.cons ru .nil)) ?_, rfl, q⟩
 rw [List.length_append, List.length_singleton]
 omega
noncomputable def rExtend : V → List V → Hp → VK → Prop := fun x vs H Q => ∃ l b xs zs, x = .ref l ∧ vs = [.ref b] ∧ H l = some (.lst xs) ∧ H b = some (.lst zs) ∧ xs.length + zs.length ≤ sizeLine ∧ Q .non (upd H l (.lst (xs ++ zs)))
theorem mt_extend : MtM X "list.extend" rExtend := by
 intro pins s σ H x vs v us Q I rx rv h
 obtain ⟨l, b, xs, zs, rfl, rfl, hH, hB, hz, q⟩ := h
 cases rx
 obtain ⟨u, rfl, ru⟩ := rv.one
 cases ru
 obtain ⟨z, its, n, r, hl, e⟩ := I.lstM hH
 obtain ⟨z2, its2, n2, r2, hl2, e2⟩ := I.lstM hB
 have hsz : its.toArray.size + its2.toArray.size ≤ sizeLine := by rw [List.size_toArray, List.size_toArray]; omega
 have hlong : ¬ (!its.toArray.isEmpty && Builtin.List.listTooLong (its.toArray.size + its2.toArray.size)) = true := by
  rw [notLongL hsz, Bool.and_false]
  exact Bool.false_ne_true
 refine call_meets F.slot_list_extend ⟨_, e, rfl⟩ F.entry_list_extend (F.args_list_extend_2 _ _)
  (AutoSeq1.list_extend_list_list_0 l its.toArray n b its2.toArray n2 hlong (by rw [List.size_toArray]; omega) (by omega)) ⟨e, e2, ?_⟩
 refine ⟨.non, _, I.lset (its' := its ++ its2) hH e (by simp) (r.append r2) ?_, rfl, q⟩
 rw [List.length_append]
 omega
noncomputable def rCat : R2 := fun x y H Q => ∃ l b xs zs, x = .ref l ∧ y = .ref b ∧ H l = some (.lst xs) ∧ H b = some (.lst zs) ∧ xs.length + zs.length ≤ sizeLine ∧ ∀ p, H p = none → Q (.ref p) (upd H p (.lst (xs ++ zs)))
theorem op_cat : OpR X (binaryOp .Add) rCat := by
 intro pins s σ H x y v u Q I rx ry h
 obtain ⟨l, b, xs, zs, rfl, rfl, hH, hB, hz, q⟩ := h
 cases rx
 cases ry
 obtain ⟨z, its, n, r, hl, e⟩ := I.lstM hH
 obtain ⟨z2, its2, n2, r2, hl2, e2⟩ := I.lstM hB
 refine PySem.P.add_list e e2 ?_ (by rw [List.size_toArray, List.size_toArray]; omega)
 have ea : its.toArray ++ its2.toArray = (its ++ its2).toArray := by simp
 rw [ea]
 exact ⟨.ref _, _, I.lnew (t' := s.toks) (r.append r2) (by rw [List.length_append]; omega), rfl, q _ I.fresh⟩
end
section
variable {prog : Program} {w : World} {A : Around} {E : Value → Shared → Prop} {s : Shared}
end
section
variable {X : Cx}
end
end L2
namespace Att
open PySem PySem.W PySem.Calls PyProof.Rows
theorem ints_of_wellAll {P : Params} {h : Heap} : ∀ (ns : List Int) (vs : List Value), WellAll P h vs (ns.map WData.int) → IntsAre vs ns := by
 intro ns
 induction ns with
 | nil =>
  intro vs w
  rw [List.map_nil] at w
  cases w
  exact .nil
 | cons n ns ih =>
  intro vs w
  rw [List.map_cons] at w
  cases w with
  | cons a b =>
   cases a
   exact .cons _ _ (ih _ b)
theorem script_of {l : OpenLaw} {n : Nat} (hn : l.most = some n) {P : Params} {h : Heap} {args : List WData} {vals : List Value}
  (hpre : l.row.toRowW.claim.pre args = true) (hwl : WellAll P h vals args) :
  ∃ a vs ns, vals = [Value.ref a] ∧ args = [WData.list (ns.map WData.int)] ∧ h.get? a = some { cls := .type "list", data := .seq vs.toArray } ∧ IntsAre vs ns ∧ ns.length ≤ n := by
 have hsh : WShape.hasAll [] args [.list .int] = true := (pre_splitW hpre).1
 have hc : l.pre.holds [] { args := args } = true := (pre_splitW hpre).2
 obtain ⟨d, r, rfl, h1, h2⟩ := hasAllW_cons hsh
 obtain rfl := hasAllW_nil h2
 obtain ⟨xs, rfl, h3⟩ := hasW_list h1
 obtain ⟨ns, rfl⟩ := items_int h3
 have hlen : ns.length ≤ n := by
  unfold OpenLaw.pre at hc
  have h4 : (WTm.not (.lt (.lit (.int (n : Int))) (.len (.arg 0)))).holds [] { args := [.list (ns.map .int)] } = true := by
   have h4 := (holds_andW hc).1
   rw [hn] at h4
   exact h4
  have h5 := condW_of h4 (w_not (w_lt w_lit (w_len_list (w_arg rfl))))
  rw [List.length_map] at h5
  refine Nat.le_of_not_lt fun q => ?_
  have q' : (n : Int) < ((ns.length : Nat) : Int) := by omega
  first
   | (rw [decide_eq_true q'] at h5; exact absurd h5 (by decide))
   | (simp at h5; omega)
 cases hwl with
 | cons w1 w2 =>
  cases w2
  cases w1 with
  | list ho hall => exact ⟨_, _, ns, rfl, rfl, ho, ints_of_wellAll ns _ hall, hlen⟩
theorem post_true (l : OpenLaw) (args : List WData) : l.row.toRowW.claim.post args (.bool true) args = true :=
 postW_of (r := l.row.toRowW) (X := (true == true))
  (show WShape.has [] (.bool true) .bool = true by first | rfl | decide | simp [WShape.has, WShape.arms, WShape.armsAll])
  (show (WTm.eq .res (.lit (.bool true))).value [] { args := args, res := some (.bool true), after := args } = some (.bool (true == true)) from w_eq_bool (w_res rfl) w_lit) rfl
theorem attach_call {l : OpenLaw} {n : Nat} {q : Program} {loose : List Str} {XP : (Str → Option Value) → Heap → Prop} {YP : World → Heap → Prop} {d : DefRec}
  (hn : l.most = some n) (hdf : d.params.defaults = [])
  (call : ∀ (w : World) (s₀ s₁ : Shared) (mg mb : Str → Option Value) (fa : Addr) (o : Obj) (pm cd doc : Value) (a : Addr) (vs : List Value) (ns : List Int),
   Ground q loose [] XP w s₀ mg mb s₁.heap → YP w s₁.heap →
   s₁.heap.get? fa = some o → o.data = .func (docDef d.name d.params d.body d.scope pm cd doc) → s₁.heap.CodeRec cd d.name → mg d.name = some (.ref fa) →
   s₁.heap.get? a = some { cls := .type "list", data := .seq vs.toArray } → IntsAre vs ns → ns.length ≤ n → s₁.gens = #[] →
   codeAny (model l.prog w) callerA (.call (.ref fa) ⟨[.ref a], []⟩) (fun r s' => r = .ok (.ret (.bool true)) ∧ OldK s₁.heap s'.heap ∧ s'.os = s₁.os ∧ AllBare s'.gens) s₁) :
  WalkO q loose XP YP l.row.toRowW d [] (fun f vs => PySem.call f vs) := by
 intro w s₀ s₁ mg mb G Y fa o pm cd doc dV kV ho hd hcd hD hmg hg args vals as hpre hlay hrd hwl hlo
 obtain rfl : dV = .none := Dflts.none hD hdf
 obtain rfl : kV = .none := Dflts.noKw hD
 obtain ⟨a, vs, ns, rfl, rfl, hobj, hints, hlen⟩ := script_of hn hpre hwl
 refine enter_call (codeAny_mono (call w s₀ s₁ mg mb fa o pm cd doc a vs ns G Y ho (fd_plain hd) hcd hmg hobj hints hlen hg) fun r s' hq => ?_)
 obtain ⟨rfl, h2, h3, h4⟩ := hq
 exact ⟨.inl ⟨.bool true, .bool true, [], rfl, fun _ => rfl, .bool true, post_true l _, fun _ => ⟨List.Pairwise.nil, fun _ hm => (nomatch hm)⟩⟩, h2, h3, h4⟩
section
variable {prog : Program} {w : World} {A : Around} {E : Value → Shared → Prop} {s : Shared} {K : Frag}
end
end Att
namespace L2
open PySem PySem.Spec PyProof.Rows
theorem vals_ints : ∀ {vs : List Value} {ns : List Int}, IntsAre vs ns → Vals (ns.map V.int) vs
 | _, _, .nil => .nil
 | _, _, .cons n t h => .cons ⟨t, rfl⟩ (vals_ints h)
noncomputable def Only (H : Hp) : Prop := ∀ b, H b = none ∨ ∃ o xs, H b = some (.frz o (.lst xs))
theorem law_call {P : Program} {w : World} {K : PySem.W.Frag} {mg mb : Str → Option Value} {CX : CXT} {k : Nat} {fa a : Addr} {fd : FuncData} {x : Str} {sp : Sp} {s₁ : Shared} {vs : List Value} {ns : List Int}
  (KX : K.In s₁.heap) (hns : s₁.heap.Ns mainGlobals mg) (hb : s₁.heap.Ns builtinsNs mb) (hbb : ∀ x : Str, x ≠ "__name__" → mb x = bootBuiltins x) (hlim : s₁.heap.NoLimit) (hg : s₁.gens = #[])
  (ha : s₁.heap.get? a = some { cls := .type "list", data := .seq vs.toArray }) (hi : IntsAre vs ns) (hl : ns.length ≤ sizeLine) (hr : Room k callerA)
  (F : ∀ base : Heap, K.In base → base.Ns mainGlobals mg → FnOk P w K mg base CX k fa fd [x] sp) (hbind : ∀ (s : Shared) (u : Value), BindsTo s fd ⟨[u], []⟩ [(x, u)])
  (hsp : ∀ H : Hp, Only H → SqL K H a (ns.map V.int) → sp [.ref a] H (fun v _ => v = .bl true) fun _ _ _ => False)
  (hCX : ∀ H e s', CX [] H s₁ (fun _ _ _ => False) e s' → False) :
  codeAny (model P w) callerA (.call (.ref fa) ⟨[.ref a], []⟩) (fun r s' => r = .ok (.ret (.bool true)) ∧ OldK s₁.heap s'.heap ∧ s'.os = s₁.os ∧ AllBare s'.gens) s₁ := by
 have rv := vals_ints hi
 have lenV := hi.length
 -- from an abstract heap in which nothing but the script may be tracked
 have core : ∀ H : Hp, Only H → SqL K H a (ns.map V.int) → HOk P w H s₁.heap → (∀ b, H b ≠ none → b = a) → (H a ≠ none → K.lookup a = none) →
   codeAny (model P w) callerA (.call (.ref fa) ⟨[.ref a], []⟩) (fun r s' => r = .ok (.ret (.bool true)) ∧ OldK s₁.heap s'.heap ∧ s'.os = s₁.os ∧ AllBare s'.gens) s₁ := by
  intro H hO hS hok hA hK
  have base_of : ∀ {b : Addr} {o : Obj}, s₁.heap.get? b = some o → H b = none → (hidT s₁.heap H).get? b = some o := fun e n => hidT_get e n
  have noA : ∀ {b : Addr} {o : Obj} {es : Array DictEntry} {ep : Nat}, s₁.heap.get? b = some o → o.data = .dict es ep → H b = none := fun {b o es ep} e d => by
   cases q : H b with
   | none => rfl
   | some u =>
    have e' : b = a := hA b (by rw [q]; simp)
    subst e'
    rw [ha] at e; cases e
    have d' : Data.seq vs.toArray _ = Data.dict es ep := d
    cases d'
  have nsK : ∀ {b : Addr} {m : Str → Option Value}, s₁.heap.Ns b m → (hidT s₁.heap H).Ns b m := fun {b m} ⟨o, es, ep, e, d, r⟩ => ⟨o, es, ep, base_of e (noA e d), d, r⟩
  have hKb : K.In (hidT s₁.heap H) := fun b o e => base_of (KX b o e) (by
   cases q : H b with
   | none => rfl
   | some u =>
    have e' : b = a := hA b (by rw [q]; simp)
    subst e'
    rw [hK (by rw [q]; simp)] at e; cases e)
  have hM : Mod K mg (hidT s₁.heap H) := ⟨hKb, nsK hns, ⟨mb, nsK hb, hbb⟩, let ⟨mc, h1, h2⟩ := hlim; ⟨mc, nsK h1, h2⟩⟩
  have e0 : Env0 P w K mg (hidT s₁.heap H) callerA [] s₁ H := ⟨rfl, hM, fun b o e => of_hidT e, Nat.le_of_eq (hidT_size _ _), trivial, fun b hb => absurd (show b ∈ ([] : List Addr) from hb) (by simp), hok, .of_eq hg⟩
  refine codeAny_mono ((F _ hKb (nsK hns)).run callerA [] s₁ H ⟨[.ref a], []⟩ [.ref a] [.ref a] _ _ hr e0 (hbind s₁ (.ref a)) (.cons rfl .nil) (hsp H hO hS)) fun r s' h => ?_
  cases r with
  | error e => exact (hCX H e s' h).elim
  | ok fl =>
   cases fl with
   | next => exact False.elim h
   | brk => exact False.elim h
   | cont => exact False.elim h
   | ret u =>
    obtain ⟨v, H', os, bare, un, hok', r', q⟩ := h
    have q' : v = .bl true := q
    subst q'
    obtain rfl : u = Value.bool true := r'
    refine ⟨rfl, OldK.of_keep fun b o e => ?_, os, bare⟩
    cases q : H b with
    | none => exact un.keep b o e q (by intro z; exact absurd (show b ∈ ([] : List Addr) from z) (by simp)) (by simp)
    | some u =>
     rcases hO b with z | ⟨ob, xs, z⟩
     ·rw [q] at z; cases z
     ·have z2 := un.frzs b ob _ z
      obtain ⟨e1, _⟩ := hok b _ z
      obtain ⟨e2, _⟩ := hok' b _ z2
      rw [e] at e1; cases e1
      exact e2
 cases hk : K.lookup a with
 | some o =>
  -- the script is one of the module's own objects
  have e := KX a o hk
  rw [ha] at e
  cases e
  refine core (fun _ => none) (fun _ => .inl rfl) (.inr ⟨_, vs.toArray, _, hk, rfl, rfl, rfl, by rw [List.size_toArray, lenV]; exact hl, by simpa using rv⟩) (fun b u z => by have z' : (none : Option HO) = some u := z; cases z') (fun b z => absurd rfl z) fun z => absurd rfl z
 | none =>
  refine core (fun b => if b = a then some (.frz { cls := .type "list", data := .seq vs.toArray } (.lst (ns.map V.int))) else none) (fun b => ?_) (.inl (.inr ⟨{ cls := .type "list", data := .seq vs.toArray }, if_pos rfl⟩)) (fun b u z => ?_) (fun b z => ?_) fun _ => hk
  ·by_cases hb : b = a
   ·exact .inr ⟨_, _, if_pos hb⟩
   ·exact .inl (if_neg hb)
  ·by_cases hb : b = a
   ·have z' := (if_pos hb).symm.trans z
    cases z'
    subst hb
    exact ⟨ha, by rw [List.length_map]; exact hl, vs, _, rv, ha⟩
   ·have z' := (if_neg hb).symm.trans z
    cases z'
  ·by_cases hb : b = a
   ·exact hb
   ·exact absurd (if_neg hb) z
end L2
namespace L2
open PySem PySem.Spec PyProof.Rows
theorem walk_of {l : PySem.W.OpenLaw} {n k : Nat} {q : Program} {loose : List Str} {XP : (Str → Option Value) → Heap → Prop} {YP : World → Heap → Prop} {d : DefRec} {K : Params → PySem.W.Frag} {CX : World → CXT} {sp : World → Sp} {x : Str}
  (hn : l.most = some n) (hn2 : n ≤ sizeLine) (hdf : d.params.defaults = []) (hr : Room k callerA)
  (hY : ∀ (w : World) (h : Heap), YP w h → (K w.params).In h)
  (F : ∀ (w : World) (mg : Str → Option Value) (fa : Addr) (h : Heap), (K w.params).In h → h.Ns mainGlobals mg → mg d.name = some (.ref fa) →
   ∃ fd : FuncData, (∀ (s : Shared) (u : Value), BindsTo s fd ⟨[u], []⟩ [(x, u)]) ∧
    ∀ base : Heap, (K w.params).In base → base.Ns mainGlobals mg → FnOk l.prog w (K w.params) mg base (CX w) k fa fd [x] (sp w))
  (hsp : ∀ (w : World) (H : Hp) (a : Addr) (ns : List Int), ns.length ≤ n → Only H → SqL (K w.params) H a (ns.map V.int) → sp w [.ref a] H (fun v _ => v = .bl true) fun _ _ _ => False)
  (hCX : ∀ (w : World) (H : Hp) (s : Shared) (e : Value) (s' : Shared), CX w [] H s (fun _ _ _ => False) e s' → False) :
  PySem.W.WalkO q loose XP YP l.row.toRowW d [] (fun f vs => PySem.call f vs) := by
 refine Att.attach_call hn hdf fun w s₀ s₁ mg mb fa o pm cd doc a vs ns G Y ho hd hcd hmg hobj hints hlen hg => ?_
 have KX := hY w _ Y
 obtain ⟨fd, hb, hF⟩ := F w mg fa _ KX G.T.g hmg
 exact law_call KX G.T.g G.T.b G.T.builtins G.T.nolimit hg hobj hints (Nat.le_trans hlen hn2) hr hF hb (fun H hO hS => hsp w H a ns hlen hO hS) fun H e s' => hCX w H s₁ e s'
theorem walk_ofK {l : PySem.W.OpenLaw} {n k : Nat} {q : Program} {loose : List Str} {XP : (Str → Option Value) → Heap → Prop} {YP : World → Heap → Prop} {d : DefRec} {K : Params → PySem.W.Frag} {CX : CXT} {sp : PySem.W.Frag → Sp} {x : Str}
  (hn : l.most = some n) (hn2 : n ≤ sizeLine) (hdf : d.params.defaults = []) (hr : Room k callerA)
  (hY : ∀ (w : World) (h : Heap), YP w h → (K w.params).In h)
  (F : ∀ (w : World) (mg : Str → Option Value) (fa : Addr) (h : Heap), (K w.params).In h → h.Ns mainGlobals mg → mg d.name = some (.ref fa) →
   ∃ fd : FuncData, (∀ (s : Shared) (u : Value), BindsTo s fd ⟨[u], []⟩ [(x, u)]) ∧
    ∀ base : Heap, (K w.params).In base → base.Ns mainGlobals mg → FnOk l.prog w (K w.params) mg base CX k fa fd [x] (sp (K w.params)))
  (hsp : ∀ (K : PySem.W.Frag) (H : Hp) (a : Addr) (ns : List Int), ns.length ≤ n → Only H → SqL K H a (ns.map V.int) → sp K [.ref a] H (fun v _ => v = .bl true) fun _ _ _ => False)
  (hCX : ∀ (H : Hp) (s : Shared) (e : Value) (s' : Shared), CX [] H s (fun _ _ _ => False) e s' → False) :
  PySem.W.WalkO q loose XP YP l.row.toRowW d [] (fun f vs => PySem.call f vs) :=
 walk_of (K := K) (CX := fun _ => CX) (sp := fun w => sp (K w.params)) hn hn2 hdf hr hY F (fun w H a ns h1 h2 h3 => hsp (K w.params) H a ns h1 h2 h3) fun _ H s e s' => hCX H s e s'
end L2
/- THE LAST THEOREM (shape; LID, My.* are yours):
   My.Adr: a structure of the addresses that your layer names (classes, functions); My.Txt K t: a structure (Prop) of the equations over K;
   My.txt_mk : {K} {implicit addresses ..} (e1 : nsIn K mainGlobals "law" = some (some (.ref f))) (e2 : K.lookup f = some ⟨oc, od, .func (fnOf "law" "law" params body scope dV kV doc pm an cdv ct), sl⟩) (e3 : codeIn K cdv "law" = true) .. : ∃ t, My.Txt K t
set_option maxRecDepth 100000 in
set_option maxHeartbeats 0 in
theorem PySem.Challenge.cw_LID_holds : PySem.Challenge.rw_LID.Holds := by
 w_on; o_law; k_head; (case hw => w_witness2)
 k_fill
 refine L2.walk_of (l := PySem.Challenge.rw_LID) (n := 63) (k := 40) (x := "script") (CX := fun w => ..) (sp := fun _ => My.sp_law) rfl (by decide) rfl ⟨rfl, by decide, by decide⟩ (fun w h Y => PySem.W.kIn_of Y) ?F ?S ?C
 case F =>
  intro w mg fa h KX G hmg
  have T : ∃ t, My.Txt (L2.KOf KX) t := by
   dsimp only [L2.KOf]                          -- K must stand as «<heap const> w.params» for k_is
   refine' My.txt_mk ?e1 ?e2 ?e3 ..
   (case e1 => PySem.W.k_is)                    -- in the order: a name -> its address -> its object -> its parts
   (case e2 => PySem.W.k_is)
   ..
  obtain ⟨t, T⟩ := T
  have e0 := hmg.symm.trans (PySem.W.mg_of KX G T.law)
  cases e0                                       -- fa is the law's own address
  exact ⟨_, fun s u => .of_eq rfl, fun base kb nb => My.law_fn T kb nb⟩     -- if «.of_eq rfl» comes too early: refine' ⟨_, ?b, fun base kb nb => My.law_fn T kb nb⟩; exact fun s u => .of_eq rfl
 case S => exact fun w H a ns hl hO hS => ..
 case C => exact ..
(the tactic k_is has no namespace: write k_is) -/
namespace L2
open PySem PySem.Spec PyProof.Rows
noncomputable def inClass (s : Stmt) (j : Nat) : Stmt := match s with
 | .ClassDef _ _ _ body _ _ _ _ _ _ _ => body.getD j (.Pass ⟨0, 0, 0, 0⟩)
 | _ => .Pass ⟨0, 0, 0, 0⟩
noncomputable def defArgs (s : Stmt) : Arguments := match s with
 | .FunctionDef _ a _ _ _ _ _ _ _ _ => a
 | _ => { posonlyargs := [], args := [], vararg := none, kwonlyargs := [], kw_defaults := [], kwarg := none, defaults := [] }
noncomputable def defBody (s : Stmt) : List Stmt := match s with
 | .FunctionDef _ _ b _ _ _ _ _ _ _ => b
 | _ => []
noncomputable def defScope (s : Stmt) : Scope := match s with
 | .FunctionDef _ _ _ _ _ _ sc _ _ _ => sc
 | _ => { kind := .function, names := [], isGenerator := false, isCoroutine := false }
noncomputable abbrev CX0 : CXT := fun _ _ _ _ _ _ => False
noncomputable abbrev E0 : XK := fun _ _ _ => False
theorem pass0 {X : Cx} : Passes CX0 X E0 := fun _ _ _ _ _ _ _ h => h.elim
structure Fun (K : PySem.W.Frag) (x qual : Str) (st : Stmt) (f : Addr) (fd : FuncData) : Prop where
 ex : ∃ (oc : Value) (od : Option Addr) (kV doc pm : Value) (an : Option Addr) (cdv ct : Value) (osl : Array (Option Value)),
  fd = PySem.W.fnOf x qual (defArgs st) (defBody st) (defScope st) .none kV doc pm an cdv ct ∧ K.lookup f = some ⟨oc, od, .func fd, osl⟩ ∧ PySem.W.codeIn K cdv qual = true
 kp : PySem.W.keepIn K (.ref f) = true
section
variable {P : Program} {w : World} {K : PySem.W.Frag} {mg : Str → Option Value} {base : Heap}
theorem Fun.binds {x qual : Str} {st : Stmt} {f : Addr} {fd : FuncData} {ps : List Str} (F : Fun K x qual st f fd)
  (h : ∀ (kV doc pm : Value) (an : Option Addr) (cdv ct : Value) (us : List Value), us.length = ps.length → bindArgs (PySem.W.fnOf x qual (defArgs st) (defBody st) (defScope st) .none kV doc pm an cdv ct) ⟨us, []⟩ = pure (ps.zip us)) : Binds K fd ps [] := by
 obtain ⟨oc, od, kV, doc, pm, an, cdv, ct, osl, rfl, lk, hcd⟩ := F.ex
 exact .all (h kV doc pm an cdv ct)
theorem fun_mk {x qual : Str} {st : Stmt} {f : Addr} {oc : Value} {od an : Option Addr} {osl : Array (Option Value)} {kV doc pm cdv ct : Value} (l : K.lookup f = some ⟨oc, od, .func (PySem.W.fnOf x qual (defArgs st) (defBody st) (defScope st) .none kV doc pm an cdv ct), osl⟩)
  (c : PySem.W.codeIn K cdv qual = true) (k : PySem.W.keepIn K (.ref f) = true) : Fun K x qual st f (PySem.W.fnOf x qual (defArgs st) (defBody st) (defScope st) .none kV doc pm an cdv ct) := ⟨⟨oc, od, kV, doc, pm, an, cdv, ct, osl, rfl, l, c⟩, k⟩
end
section
variable {X : Cx}
theorem pv (i : Nat) {x : Str} {pos : Pos} (hN : X.N[i]? = some x := by rfl) (hv : Vis X.env.scope x := by first | exact Or.inl rfl | exact Or.inr (Or.inl rfl) | exact Or.inr (Or.inr rfl)) (hd : (x == ("__debug__" : Str)) = false := by decide)
  (hcd : (x == ("__classdict__" : Str)) = false := by decide) : PE X (.Name x pos) (tVar i) := pe_var hN hv hd hcd
end
noncomputable def Same (H H' : Hp) : Prop := ∀ b o, H b = some o → H' b = some o
theorem Same.refl (H : Hp) : Same H H := fun _ _ h => h
theorem Same.trans {H H1 H2 : Hp} (a : Same H H1) (b : Same H1 H2) : Same H H2 := fun c o h => b c o (a c o h)
theorem Same.seq {K : PySem.W.Frag} {H H' : Hp} {a : Addr} {xs : List V} (e : Same H H') (h : SqL K H a xs) : SqL K H' a xs := by
 rcases h with (h | ⟨o, h⟩) | h
 ·exact .inl (.inl (e _ _ h))
 ·exact .inl (.inr ⟨o, e _ _ h⟩)
 ·exact .inr h
end L2
set_option maxRecDepth 100000
namespace L2
open PySem PySem.Spec PyProof.Rows
section
variable {κ : Type} [DecidableEq κ]
noncomputable def valV (kvs : List (κ × V)) (k : κ) : Option V := (kvs.find? fun kv => decide (kv.1 = k)).map (·.2)
noncomputable def putK (kvs : List (κ × V)) (k : κ) (v : V) : List (κ × V) :=
 if (kvs.any fun kv => decide (kv.1 = k)) = true then kvs.map (fun kv => if kv.1 = k then (kv.1, v) else kv) else kvs ++ [(k, v)]
noncomputable def dropK (kvs : List (κ × V)) (k : κ) : List (κ × V) := kvs.filter fun kv => decide (kv.1 ≠ k)
theorem valV_nil {k : κ} : valV ([] : List (κ × V)) k = none := rfl
theorem valV_pos {p : κ × V} {r : List (κ × V)} {k : κ} (e : p.1 = k) : valV (p :: r) k = some p.2 := by simp [valV, List.find?_cons, e]
theorem valV_neg {p : κ × V} {r : List (κ × V)} {k : κ} (e : ¬ p.1 = k) : valV (p :: r) k = valV r k := by simp [valV, List.find?_cons, e]
theorem RelO.isSome_eq {o : Option V} {u : Option Value} (r : RelO o u) : o.isSome = u.isSome := by
 cases o with
 | none => cases u with
  | none => rfl
  | some _ => exact (show False from r).elim
 | some _ => cases u with
  | none => exact (show False from r).elim
  | some _ => rfl
theorem KV.val {kvs : List (κ × V)} {vs : List (κ × Value)} (r : KV kvs vs) (k : κ) : RelO (valV kvs k) (valueAt vs k) := by
 unfold KV at r
 induction r with
 | nil => exact True.intro
 | @cons p q ps qs h t ih =>
  obtain ⟨h1, h2⟩ := h
  by_cases e : p.1 = k
  ·have e' : q.1 = k := h1.symm.trans e
   have b : valueAt (q :: qs) k = some q.2 := by simp [valueAt, List.find?_cons, e']
   rw [valV_pos e, b]; exact h2
  ·have e' : ¬ q.1 = k := fun z => e (h1.trans z)
   have b : valueAt (q :: qs) k = valueAt qs k := by simp [valueAt, List.find?_cons, e']
   rw [valV_neg e, b]; exact ih
end
theorem kV_is {P : Program} {w : World} {k : Key} {u : Value} (r : RelV (kV k) u) : (mixKind P w).is k u = true := by
 cases k with
 | inl i => obtain ⟨t, e⟩ := (show ∃ t, u = Value.int i t from r); subst e; exact mixKind_int P w i t
 | inr x => obtain ⟨t, e⟩ := (show ∃ t, u = Value.str x t from r); subst e; exact mixKind_str P w x t
theorem items_are {P : Program} {w : World} : ∀ {ks : List Key} {us : List Value}, Vals (ks.map kV) us → ItemsAre (mixKind P w) ks us
 | [], _, r => by rw [List.map_nil] at r; cases r; exact .nil
 | k :: ks, _, r => by
  rw [List.map_cons] at r
  cases r with
  | cons h t => exact .cons (kV_is h) (items_are t)
noncomputable abbrev KT (H : Hp) : List (List Key × V) → List (List Key × Addr × Value) → Prop := Paired fun p q => p.1 = q.1 ∧ H q.2.1 = some (.tup (p.1.map kV)) ∧ RelV p.2 q.2.2
theorem KT.val {H : Hp} {kvs : List (List Key × V)} {xs : List (List Key × Addr × Value)} (r : KT H kvs xs) (k : List Key) : RelO (valV kvs k) ((atKey xs k).map (·.2)) := by
 induction r with
 | nil => exact True.intro
 | @cons p q ps qs h t ih =>
  obtain ⟨h1, _, h2⟩ := h
  by_cases e : p.1 = k
  ·have e' : q.1 = k := h1.symm.trans e
   have b : atKey (q :: qs) k = some q.2 := by simp [atKey, List.find?_cons, e']
   rw [valV_pos e, b]; exact h2
  ·have e' : ¬ q.1 = k := fun z => e (h1.trans z)
   have b : atKey (q :: qs) k = atKey qs k := by simp [atKey, List.find?_cons, e']
   rw [valV_neg e, b]; exact ih
section
variable {P : Program} {w : World} {H : Hp} {h : Heap} {a : Addr}
theorem rd_of {u : HO} (ok : HOk P w H h) (e : Rd H a u) : ObjOk P w H h a u := e.ok ok
theorem dk_rd {kvs : List (Key × V)} (ok : HOk P w H h) (e : Rd H a (.dK kvs)) : kvs.length ≤ sizeLine ∧ (a == sysModules) = false ∧ ∃ vs, KV kvs vs ∧ h.DictOf (mixKind P w) a vs :=
 show ObjOk P w H h a (.dK kvs) from rd_of ok e
theorem key_of {ks : List Key} (ok : HOk P w H h) (e : H a = some (.tup (ks.map kV))) : (tupleKind (mixKind P w)).is h ks a := by
 obtain ⟨_, its, r, o, h1, h2, n, h3⟩ := (show ObjOk P w H h a (.tup (ks.map kV)) from ok a _ e)
 exact ⟨o, its.toArray, n, h1, h2, h3, by simpa using items_are r⟩
theorem dt_rd {kvs : List (List Key × V)} (ok : HOk P w H h) (e : Rd H a (.dT kvs)) : kvs.length ≤ sizeLine ∧ (a == sysModules) = false ∧
  ∃ xs, KT H kvs xs ∧ h.DictOfH (tupleKind (mixKind P w)) a xs := by
 obtain ⟨z, y, xs, r, o, es, ep, h1, h2, h3, h4, h5⟩ := (show ObjOk P w H h a (.dT kvs) from rd_of ok e)
 refine ⟨z, y, xs, r, o, es, ep, h1, h2, h3, h4, fun x hx => ?_, h5⟩
 have all : ∀ {l : List (List Key × V)} {m : List (List Key × Addr × Value)}, KT H l m → ∀ x ∈ m, (tupleKind (mixKind P w)).is h x.1 x.2.1 := by
  intro l m q
  induction q with
  | nil => intro x hx; exact nomatch hx
  | @cons p q ps qs hq t ih =>
   intro x hx
   rcases List.mem_cons.mp hx with e | hx
   ·subst e
    exact key_of ok (by rw [← hq.1]; exact hq.2.1)
   ·exact ih x hx
 exact all r x hx
end
noncomputable def DGet (H : Hp) (a : Addr) (y : V) (r : Option V) : Prop :=
 (∃ kvs k, Rd H a (.dK kvs) ∧ y = kV k ∧ r = valV kvs k) ∨ ∃ kvs k b, Rd H a (.dT kvs) ∧ y = .ref b ∧ H b = some (.tup (k.map kV)) ∧ r = valV kvs k
theorem DGet.k {H : Hp} {a : Addr} {kvs : List (Key × V)} {k : Key} (e : H a = some (.dK kvs)) : DGet H a (kV k) (valV kvs k) := .inl ⟨kvs, k, .inl e, rfl, rfl⟩
section
variable {X : Cx} {pins : List (Addr × Obj)} {σ : St} {H : Hp} {s : Shared} {a : Addr} {y v : V} {u r : Value} {o : Option V} {A : Around} {E : Value → Shared → Prop}
theorem Inv.big (I : Inv X pins σ H s) : sysModules < s.heap.objs.size := by
 have h : mainGlobals < s.heap.objs.size := (I.mod.glob.keeps I.bk).lt
 exact Nat.lt_trans (by decide) h
theorem d_in {Q : Value → Shared → Prop} (hu : A.units + 1 < cLine) (I : Inv X pins σ H s) (g : DGet H a y o) (ry : RelV y u) (h : ∀ s', Inv X pins σ H s' → Q (.bool o.isSome) s') :
  wpAny (model X.prog X.w) A (compareOp .In u (.ref a)) Q E s := by
 rcases g with ⟨kvs, k, e, ey, l⟩ | ⟨kvs, k, b, e, ey, eb, l⟩
 ·subst ey
  obtain ⟨z, hd, vs, rel, dd⟩ := dk_rd I.hok e
  refine wpAny_in_of (kV_is ry) hd dd.mapOf ?_
  rw [← (rel.val k).isSome_eq, ← l]
  exact h _ (I.tok _)
 ·subst ey
  cases (show u = Value.ref b from ry)
  obtain ⟨z, hd, xs, rel, dd⟩ := dt_rd I.hok e
  refine wpAny_in_heap (tupleKind_room_in1 hu) (key_of I.hok eb) hd dd ?_
  have q := (rel.val k).isSome_eq
  rw [Option.isSome_map] at q
  rw [← q, ← l]
  exact h _ (I.tok _)
end
section
variable {X : Cx} {pins : List (Addr × Obj)} {σ : St} {H : Hp} {s : Shared} {a : Addr} {kvs : List (Key × V)} {k : Key} {u : Value} {A : Around} {E : Value → Shared → Prop}
end
section
variable {X : Cx} {o i e value : Expr} {pos pos' tpos : Pos} {td ty tv : TE}
end
theorem dk_empty {P : Program} {w : World} {H : Hp} (h : Heap) (hb : sysModules < h.objs.size) : ObjOk P w H (h.push { cls := .type "dict", data := .dict #[] }) h.objs.size (.dK []) :=
 ⟨Nat.zero_le _, beq_eq_false_iff_ne.mpr (Ne.symm (Nat.ne_of_lt hb)), [], .nil, Heap.DictOf.new h⟩
noncomputable def tDNewK : TE := fun _ H Q => ∀ p, H p = none → Q (.ref p) (upd H p (.dK []))
section
variable {X : Cx} {pos : Pos}
theorem pe_dnewK : PE X (.Dict [] [] pos) tDNewK := fun pins s σ H Q I h =>
 wpAny_Dict_empty ⟨.ref s.heap.objs.size, _, I.laid (a := s.heap.objs.size) (o := .dK []) (t' := s.toks) (fun _ _ q => Heap.get?_push_of_some _ q) (Nat.le_refl _) (dk_empty s.heap I.big), rfl, h _ (I.hok.fresh (Nat.le_refl _))⟩
end
noncomputable def tPairs : List (TE × TE) → St → Hp → (List (V × V) → Hp → Prop) → Prop
 | [], _, H, Q => Q [] H
 | (tk, tv) :: r, σ, H, Q => tk σ H fun x H1 => tv σ H1 fun y H2 => tPairs r σ H2 fun ps H3 => Q ((x, y) :: ps) H3
noncomputable def mergeK (kvs more : List (Key × V)) : List (Key × V) := more.foldl (fun acc kv => putK acc kv.1 kv.2) kvs
noncomputable def tDisp (trs : List (TE × TE)) : TE := fun σ H Q => ∀ p, H p = none → tPairs trs σ (upd H p (.dK [])) fun ps H2 => H2 p = some (.dK []) ∧ ∃ kvs : List (Key × V), ps = kvs.map (fun kv => (kV kv.1, kv.2)) ∧ kvs.length ≤ 15 ∧ Q (.ref p) (upd H2 p (.dK (mergeK [] kvs)))
section
variable {X : Cx} {pins : List (Addr × Obj)} {σ : St} {H : Hp} {s : Shared} {a : Addr} {y d : V} {u r : Value} {o : Option V} {A : Around} {E : Value → Shared → Prop}
end
section
variable {X : Cx} {o e f : Expr} {apos cpos : Pos} {td ty tx : TE}
end
section
variable {X : Cx} {pins : List (Addr × Obj)} {σ : St} {H : Hp} {s : Shared} {a : Addr} {kvs : List (Key × V)} {A : Around} {E : Value → Shared → Prop}
end
section
variable {X : Cx} {pins : List (Addr × Obj)} {σ : St} {H : Hp} {s : Shared} {a : Addr} {y : V} {u : Value} {A : Around} {E : Value → Shared → Prop}
end
end L2
namespace L2
open PySem PySem.Spec PyProof.Rows
section
variable {X : Cx}
end
section
variable {κ : Type} [DecidableEq κ]
end
end L2
set_option maxRecDepth 100000
namespace L2
open PySem PySem.Spec PyProof.Rows
noncomputable def FnAt (P : Program) (w : World) (K : PySem.W.Frag) (mg : Str → Option Value) (base : Heap) (CX : CXT) (x : Str) (k : Nat) (ps : List Str) (sp : Sp) : Prop :=
 ∃ f fd, FnOk P w K mg base CX k f fd ps sp ∧ mg x = some (.ref f) ∧ PySem.W.keepIn K (.ref f) = true ∧ Binds K fd ps [] ∧ ∃ oc od osl, K.lookup f = some ⟨oc, od, .func fd, osl⟩
noncomputable def DefAt (K : PySem.W.Frag) (mg : Str → Option Value) (x : Str) (st : Stmt) : Prop := ∃ f fd, Fun K x x st f fd ∧ mg x = some (.ref f)
class Quiet (CX : CXT) : Prop where
 pass : ∀ (X : Cx), Passes CX X E0
noncomputable instance : Quiet CX0 := ⟨fun _ => pass0⟩
theorem defat_mk {K : PySem.W.Frag} {h : Heap} {mg : Str → Option Value} {x : Str} {st : Stmt} {f : Addr} {oc : Value} {od an : Option Addr} {osl : Array (Option Value)} {kV doc pm cdv ct : Value} (X : K.In h) (G : h.Ns mainGlobals mg)
  (a : PySem.W.nsIn K mainGlobals x = some (some (.ref f)))
  (l : K.lookup f = some ⟨oc, od, .func (PySem.W.fnOf x x (defArgs st) (defBody st) (defScope st) .none kV doc pm an cdv ct), osl⟩) (c : PySem.W.codeIn K cdv x = true) (k : PySem.W.keepIn K (.ref f) = true) : DefAt K mg x st :=
 ⟨f, _, fun_mk l c k, PySem.W.mg_of X G a⟩
section
variable {P : Program} {w : World} {K : PySem.W.Frag} {mg : Str → Option Value} {base : Heap} {CX : CXT}
theorem DefAt.fn {x : Str} {st : Stmt} {N ps : List Str} {k : Nat} {sp : Sp} (F : DefAt K mg x st) (S : FnScope N ps (defScope st))
  (hb : ∀ (kV doc pm : Value) (an : Option Addr) (cdv ct : Value) (us : List Value), us.length = ps.length → bindArgs (PySem.W.fnOf x x (defArgs st) (defBody st) (defScope st) .none kV doc pm an cdv ct) ⟨us, []⟩ = pure (ps.zip us))
  (len : ∀ vs H Q E, sp vs H Q E → vs.length = ps.length)
  (hbody : ∀ (f : Addr) (cdv : Value) (A : Around) (outer : List Env) (s : Shared) (H : Hp) (vs : List V) (Q : VK) (E : XK), Room k (A.deeper (envOfC x (defScope st) s.heap.objs.size f cdv)) → sp vs H Q E →
   ∃ t, PSs (cxOf CX P w K mg base N x (defScope st) f cdv A outer s H E).nox (defBody st) t ∧ t { nx := fun _ H' => Q .non H', rt := Q } (start N vs) H) : FnAt P w K mg base CX x (k + 1) ps sp := by
 obtain ⟨f, fd, F, hm⟩ := F
 have bd := F.binds hb
 have kp := F.kp
 obtain ⟨oc, od, kV, doc, pm, an, cdv, ct, osl, rfl, lk, hcd⟩ := F.ex
 refine ⟨f, _, fn_of lk hcd S len fun A outer s H vs Q E hr hsp => ?_, hm, kp, bd, oc, od, osl, lk⟩
 obtain ⟨t, h, q⟩ := hbody f cdv A outer s H vs Q E hr hsp
 exact ⟨t, h.nox, q⟩
end
section
variable {X : Cx} {CX : CXT} {k n : Nat} {ps : List Str} {sp : Sp} {x : Str} {p pos : Pos} {e : Expr} {es : List Expr} {t : TA}
theorem pe_fn [Quiet CX] (G : FnAt X.prog X.w X.K X.mg X.base CX x k ps sp) (hr : Room n X.A) (hk : k ≤ n) (hg : Gl X x) (ha : PA X (e :: es) t)
  (hdb : (x == ("__debug__" : Str)) = false := by decide) (he : starEach (e :: es) X.env = (false, eval e X.env) :: starEach es X.env := by rfl) (hpl : (backTo pos (starEach es X.env)).any (·.1) = false := by rfl) :
  PE X (.Call (.Name x p) (e :: es) [] pos) (tCall sp [] E0 t) := by
 obtain ⟨f, fd, F, hm, kp, b, _⟩ := G
 exact pe_call F (hr.mono hk) hg hm kp b .nil (Quiet.pass X) ha hdb he hpl
noncomputable def CstAt (mg : Str → Option Value) (x : Str) (v : V) : Prop := ∃ u, mg x = some u ∧ RelV v u
theorem pe_cst {v : V} (hg : Gl X x) (h : CstAt X.mg x v) (hd : (x == ("__debug__" : Str)) = false := by decide) : PE X (.Name x pos) (tC v) := by
 obtain ⟨u, hm, r⟩ := h
 exact pe_glob hg hm r hd
end
noncomputable def ItrS (lo c : Int) (n : Nat) : It := ⟨fun i _ => i < n, fun i H x H' => H' = H ∧ x = .int (lo + i * c), fun i _ => n ≤ i⟩
theorem turn_rangeS {P : Program} {w : World} {K : PySem.W.Frag} {tg : Expr} (it : Addr) (lo c : Int) (n : Nat) : Turn P w K tg (ItrS lo c n) [it] it (fun i h => IsRangeIter h it (lo + (i : Nat) * c) ((n : Int) - (i : Nat)) c) where
 mem := by simp
 obj := fun i h st b hb => by
  have e : b = it := by simpa using hb
  subst e
  exact ⟨_, st, fun v z => by
   have z' : Data.fields _ = Data.cell v := z
   cases z'⟩
 keep := fun i h h' st k => k it (by simp) _ st
 item := by
  intro X hP hw hK hc i pins s σ H E I hf st hg
  subst hP hw hK
  obtain ⟨f0, f1, f2, f3, f4, f5⟩ := hf it (by simp)
  have W := Walks.range (prog := X.prog) (w := X.w) (I.ok.hd hc) it lo c n
  refine W.item i s _ _ hg st fun v h' tk hv st' kk => ?_
  obtain ⟨t, rfl⟩ := hv
  have I1 : Inv X pins σ H { s with heap := h', toks := tk } := I.turned (fun b o hb e => kk b o (by simpa using hb) e) f0 f1 f3 f4 f5
  exact ⟨_, rfl, go_of (s := { s with heap := h', toks := tk }) (n := "range_iterator") st' rfl rfl (by decide) ⟨.int (lo + i * c), H, I1, ⟨t, rfl⟩, ⟨rfl, rfl⟩, st', fun b hb => (hf b hb).1⟩⟩
 done := by
  intro X hP hw hK hc i pins s σ H E I hf st hg
  subst hP hw hK
  obtain ⟨f0, f1, f2, f3, f4, f5⟩ := hf it (by simp)
  exact wpAny_pyNext_range_end (I.ok.hd hc) st (by have : n ≤ i := hg; omega) fun h' eb => ⟨rfl, I.turned (t' := s.toks) (fun b o hb e => eb b o hb e) f0 f1 f3 f4 f5⟩
 self := fun _ _ _ _ _ st h => wpAny_pyIter_rangeiter st h
noncomputable def rcount (lo hi c : Int) : Nat := (Builtin.Range.rangeSize lo hi c).toNat
theorem rsize_nn (lo hi c : Int) (hc : 0 < c) : 0 ≤ Builtin.Range.rangeSize lo hi c := by
 unfold Builtin.Range.rangeSize
 rw [if_pos hc]
 split
 ·have := Int.ediv_nonneg (a := hi - lo - 1) (b := c) (by omega) (by omega)
  omega
 ·exact Int.le_refl 0
theorem small_S {a b c : Int} (ha : -(2 ^ 61) ≤ a) (ha' : a < 2 ^ 61) (hb : -(2 ^ 61) ≤ b) (hb' : b < 2 ^ 61) (hc : 0 < c) (hc' : c < 2 ^ 61) : Builtin.Range.small a b c = true := by
 have h0 := rsize_nn a b c hc
 have h1 : Builtin.Range.rangeSize a b c ≤ 2 ^ 62 := by
  unfold Builtin.Range.rangeSize
  rw [if_pos hc]
  split
  ·have := Int.ediv_le_self (a := b - a - 1) c (by omega)
   omega
  ·decide
 unfold Builtin.Range.small
 simp only [Builtin.Range.rangeFitsLong, Bool.and_eq_true, Bool.or_eq_true, decide_eq_true_eq, beq_iff_eq]
 rw [if_pos hc]
 simp only [Bool.and_eq_true, decide_eq_true_eq]
 omega
section
variable {X : Cx} {tg : Expr}
theorem range_itS {pins : List (Addr × Obj)} {σ : St} {H : Hp} {s : Shared} {R : It → Hp → Prop} {E : Value → Shared → Prop} {lo hi c : Int} {t u v : Tok} {tk : Nat} (I : Inv X pins σ H s) (hs : Builtin.Range.small lo hi c = true) (hc : 0 < c)
  (q : R (ItrS lo c (rcount lo hi c)) H) : wpAny (model X.prog X.w) X.A (pyIter (.ref s.heap.objs.size)) (PIE X pins σ tg R) E { s with heap := s.heap.push { cls := .type "range", data := .fields #[.int lo t, .int hi u, .int c v] }, toks := tk } := by
 refine wpAny_pyIter_range (IsRange.new ..) hs ?_
 have I1 : Inv X pins σ H { s with heap := s.heap.push { cls := .type "range", data := .fields #[.int lo t, .int hi u, .int c v] }, toks := tk } := I.kept fun b o e => Heap.get?_push_of_some _ e
 refine ⟨(s.heap.push { cls := .type "range", data := .fields #[.int lo t, .int hi u, .int c v] }).objs.size, [(s.heap.push { cls := .type "range", data := .fields #[.int lo t, .int hi u, .int c v] }).objs.size], _, _, H, rfl,
  I1.kept (t' := tk) fun b o e => Heap.get?_push_of_some _ e, turn_rangeS _ lo c (rcount lo hi c), ?_, fun b hb => ?_, q⟩
 ·have e1 : lo + ((0 : Nat) : Int) * c = lo := by simp
  have e2 : ((rcount lo hi c : Nat) : Int) - ((0 : Nat) : Int) = Builtin.Range.rangeSize lo hi c := by
   have := rsize_nn lo hi c hc
   unfold rcount
   omega
  show IsRangeIter _ _ (lo + ((0 : Nat) : Int) * c) (((rcount lo hi c : Nat) : Int) - ((0 : Nat) : Int)) c
  rw [e1, e2]
  exact Heap.get?_push_size _ rfl
 ·have e : b = (s.heap.push { cls := .type "range", data := .fields #[.int lo t, .int hi u, .int c v] }).objs.size := by simpa using hb
  subst e
  exact I1.fpOk (Nat.le_refl _) (I1.hok.fresh (Nat.le_refl _))
end
theorem for_rangeS {lo c : Int} {n : Nat} {g : TG} {tb : TS} {D : Ends} {σ : St} {H : Hp} (Pv : Nat → St → Hp → Prop) (h0 : Pv 0 σ H)
  (hs : ∀ (i : Nat) σ H, i < n → Pv i σ H → g (.int (lo + i * c)) σ H fun σ2 H2 => tb { D with nx := Pv (i + 1), ct := Pv (i + 1), bk := D.nx } σ2 H2) (hd : ∀ σ H, Pv n σ H → D.nx σ H) :
  ∃ W : Nat → Nat → St → Hp → Prop, (∃ m, W 0 m σ H) ∧ ∀ i m σ H, W i m σ H →
   ((ItrS lo c n).stop i H ∧ D.nx σ H) ∨ ((ItrS lo c n).go i H ∧ ∃ N : St → Hp → Prop, (∀ σ' H', N σ' H' → ∃ m', m' < m ∧ W (i + 1) m' σ' H') ∧ ∀ x H', (ItrS lo c n).yld i H x H' → g x σ H' fun σ2 H2 => tb { D with nx := N, ct := N, bk := D.nx } σ2 H2) := by
 refine ⟨fun i m σ H => i ≤ n ∧ m = n - i ∧ Pv i σ H, ⟨n, Nat.zero_le _, rfl, h0⟩, fun i m σ H ⟨hi, hm, hp⟩ => ?_⟩
 by_cases e : i = n
 ·subst e
  exact .inl ⟨Nat.le_refl _, hd σ H hp⟩
 ·refine .inr ⟨(by show i < n; omega), fun σ' H' => Pv (i + 1) σ' H', fun σ' H' h => ⟨n - (i + 1), by omega, by omega, rfl, h⟩, fun x H' ⟨e1, e2⟩ => ?_⟩
  subst e1 e2
  exact hs i σ _ (by omega) hp
end L2
set_option maxRecDepth 100000
namespace L2
open PySem PySem.Spec PyProof.Rows
section
variable {g : Int → Int → V} {C : Int → Int → Prop} {i j : Int} {H : Hp} {Q : VK}
theorem rI0_int : rI0 g (.int i) (.int j) H Q = Q (g i j) H := by
 apply propext
 constructor
 ·rintro ⟨a, b, e1, e2, q⟩
  cases e1; cases e2; exact q
 ·intro q; exact ⟨i, j, rfl, rfl, q⟩
theorem rI_int : rI C g (.int i) (.int j) H Q = (C i j ∧ Q (g i j) H) := by
 apply propext
 constructor
 ·rintro ⟨a, b, e1, e2, q⟩
  cases e1; cases e2; exact q
 ·intro q; exact ⟨i, j, rfl, rfl, q⟩
theorem rU_int {f : Int → V} : rU f (.int i) H Q = Q (f i) H := by
 apply propext
 constructor
 ·rintro ⟨a, e1, q⟩
  cases e1; exact q
 ·intro q; exact ⟨i, rfl, q⟩
theorem ex_bl {b : Bool} {P : Bool → Prop} : (∃ k, V.bl b = .bl k ∧ P k) = P b := by
 apply propext
 constructor
 ·rintro ⟨k, e, q⟩
  cases e; exact q
 ·intro q; exact ⟨b, rfl, q⟩
theorem ex_sv {v : V} {P : V → Prop} : (∃ u, some (some v) = some (some u) ∧ P u) = P v := by
 apply propext
 constructor
 ·rintro ⟨k, e, q⟩
  cases e; exact q
 ·intro q; exact ⟨v, rfl, q⟩
theorem rEq_int : rEq (.int i) (.int j) H Q = Q (.bl (decide (i = j))) H := by
 have e : decide (V.int i = V.int j) = decide (i = j) := by
  by_cases h : i = j
  ·subst h; simp
  ·rw [decide_eq_false h, decide_eq_false (fun q => h (V.int.inj q))]
 unfold rEq
 rw [e]
 apply propext
 exact ⟨fun h => h.2, fun h => ⟨rfl, h⟩⟩
theorem rNe_int : rNe (.int i) (.int j) H Q = Q (.bl (!decide (i = j))) H := by
 have e : decide (V.int i = V.int j) = decide (i = j) := by
  by_cases h : i = j
  ·subst h; simp
  ·rw [decide_eq_false h, decide_eq_false (fun q => h (V.int.inj q))]
 unfold rNe
 rw [e]
 apply propext
 exact ⟨fun h => h.2, fun h => ⟨rfl, h⟩⟩
theorem rEq_str {a b : Str} : rEq (.str a) (.str b) H Q = Q (.bl (decide (a = b))) H := by
 have e : decide (V.str a = V.str b) = decide (a = b) := by
  by_cases h : a = b
  ·subst h; simp
  ·rw [decide_eq_false h, decide_eq_false (fun q => h (V.str.inj q))]
 unfold rEq
 rw [e]
 apply propext
 exact ⟨fun h => h.2, fun h => ⟨rfl, h⟩⟩
theorem rNe_str {a b : Str} : rNe (.str a) (.str b) H Q = Q (.bl (!decide (a = b))) H := by
 have e : decide (V.str a = V.str b) = decide (a = b) := by
  by_cases h : a = b
  ·subst h; simp
  ·rw [decide_eq_false h, decide_eq_false (fun q => h (V.str.inj q))]
 unfold rNe
 rw [e]
 apply propext
 exact ⟨fun h => h.2, fun h => ⟨rfl, h⟩⟩
theorem rEq_bl {a b : Bool} : rEq (.bl a) (.bl b) H Q = Q (.bl (decide (a = b))) H := by
 have e : decide (V.bl a = V.bl b) = decide (a = b) := by
  by_cases h : a = b
  ·subst h; simp
  ·rw [decide_eq_false h, decide_eq_false (fun q => h (V.bl.inj q))]
 unfold rEq
 rw [e]
 apply propext
 exact ⟨fun h => h.2, fun h => ⟨rfl, h⟩⟩
theorem rNe_bl {a b : Bool} : rNe (.bl a) (.bl b) H Q = Q (.bl (!decide (a = b))) H := by
 have e : decide (V.bl a = V.bl b) = decide (a = b) := by
  by_cases h : a = b
  ·subst h; simp
  ·rw [decide_eq_false h, decide_eq_false (fun q => h (V.bl.inj q))]
 unfold rNe
 rw [e]
 apply propext
 exact ⟨fun h => h.2, fun h => ⟨rfl, h⟩⟩
end
theorem OpR.imp {X : Cx} {f : Value → Value → Sem Value} {r r' : R2} (h : OpR X f r) (i : ∀ x y H Q, r' x y H Q → r x y H Q) : OpR X f r' :=
 fun pins s σ H x y v u Q I rx ry q => h pins s σ H x y v u Q I rx ry (i _ _ _ _ q)
theorem CallR.imp {X : Cx} {f : Value} {r r' : List V → Hp → VK → Prop} (h : CallR X f r) (i : ∀ xs H Q, r' xs H Q → r xs H Q) : CallR X f r' :=
 fun pins s σ H xs us Q I rs q => h pins s σ H xs us Q I rs (i _ _ _ q)
noncomputable def rAddA (K : PySem.W.Frag) : R2 := fun x y H Q => match x, y with
 | .int i, .int j => Q (.int (i + j)) H
 | .str a, .str b => a.length + b.length ≤ sizeLine ∧ Q (.str (a ++ b)) H
 | .ref l, .ref b => rCat (.ref l) (.ref b) H Q ∨ rCatT K (.ref l) (.ref b) H Q
 | _, _ => False
section
variable {X : Cx}
theorem op_addA : OpR X (binaryOp .Add) (rAddA X.K) := by
 refine OpR.imp (op_add.or (op_add_str.or (op_cat.or op_catT))) fun x y H Q h => ?_
 unfold rAddA at h
 split at h
 ·exact .inl ⟨_, _, rfl, rfl, h⟩
 ·exact .inr (.inl ⟨_, _, rfl, rfl, h⟩)
 ·exact .inr (.inr h)
 ·exact h.elim
noncomputable def CShl (i j : Int) : Prop := (0 ≤ j ∧ j ≤ 1000000) ∧ -(2 ^ 512) < i ∧ i < 2 ^ 512
theorem CShl.bits {i j : Int} (h : CShl i j) : (Builtin.Int.intBits i : Int) + j ≤ 2 ^ 27 := by
 have hb : Builtin.Int.intBits i ≤ 512 := by
  unfold Builtin.Int.intBits
  split
  ·omega
  ·rename_i hz
   have hz' : i ≠ 0 := fun q => hz (by rw [q]; rfl)
   have : i.natAbs.log2 < 512 := (Nat.log2_lt (by omega)).mpr (by have := h.2; omega)
   omega
 have := h.1.2
 omega
theorem op_shlA : OpR X (binaryOp .LShift) (rI CShl fun i j => .int (i * 2 ^ j.toNat)) := opI fun _ _ _ _ _ _ _ hc q => lshift_int hc.1.1 hc.bits q
end
noncomputable def CPowA (i j : Int) : Prop := (0 ≤ j ∧ j ≤ 1000000) ∧ -(2 ^ 64) < i ∧ i < 2 ^ 64
noncomputable def rLenA (K : PySem.W.Frag) : List V → Hp → VK → Prop := fun xs H Q => match xs with
 | [.str z] => z.length ≤ sizeLine ∧ Q (.int z.length) H
 | [.ref p] => ∃ ys, (SqL K H p ys ∨ SqT K H p ys) ∧ Q (.int ys.length) H
 | _ => False
section
variable {X : Cx}
theorem call_lenA : CallR X (.builtin "len") (rLenA X.K) := by
 refine CallR.imp (call_len_seq.or call_len_str) fun xs H Q h => ?_
 unfold rLenA at h
 split at h
 ·exact .inr ⟨_, rfl, h.1, h.2⟩
 ·obtain ⟨ys, h1, h2⟩ := h
  exact .inl ⟨_, ys, rfl, h1, h2⟩
 ·exact h.elim
noncomputable def rMinA : List V → Hp → VK → Prop := fun xs H Q => match xs with
 | [.int i, .int j] => Q (.int (if j < i then j else i)) H
 | _ => False
noncomputable def rMaxA : List V → Hp → VK → Prop := fun xs H Q => match xs with
 | [.int i, .int j] => Q (.int (if i < j then j else i)) H
 | _ => False
theorem call_minA (hc : X.calm = true) : CallR X (.builtin "min") rMinA := by
 refine CallR.imp (call_min2 hc) fun xs H Q h => ?_
 unfold rMinA at h
 split at h
 ·exact ⟨_, _, rfl, h⟩
 ·exact h.elim
theorem call_maxA (hc : X.calm = true) : CallR X (.builtin "max") rMaxA := by
 refine CallR.imp (call_max2 hc) fun xs H Q h => ?_
 unfold rMaxA at h
 split at h
 ·exact ⟨_, _, rfl, h⟩
 ·exact h.elim
noncomputable def isiF : V → String → Option Bool
 | .int _, "int" => some true
 | .int _, "bool" => some false
 | .int _, "str" => some false
 | .bl _, "int" => some true
 | .bl _, "bool" => some true
 | .str _, "str" => some true
 | .str _, "int" => some false
 | _, _ => none
noncomputable def rIsi (K : PySem.W.Frag) : List V → Hp → VK → Prop := fun xs H Q => match xs with
 | [x, .ty T] => (match isiF x T with
  | some b => Q (.bl b) H
  | none => ∃ t b, TyOf K H x t ∧ PySem.W.kitOne K t (.type T) = some b ∧ Q (.bl b) H)
 | _ => False
theorem kit_ii (K : PySem.W.Frag) : PySem.W.kitOne K (.type "int") (.type "int") = some true := by first | rfl | kernel_rfl
theorem kit_ib (K : PySem.W.Frag) : PySem.W.kitOne K (.type "int") (.type "bool") = some false := by first | rfl | kernel_rfl
theorem kit_is (K : PySem.W.Frag) : PySem.W.kitOne K (.type "int") (.type "str") = some false := by first | rfl | kernel_rfl
theorem kit_bi (K : PySem.W.Frag) : PySem.W.kitOne K (.type "bool") (.type "int") = some true := by first | rfl | kernel_rfl
theorem kit_bb (K : PySem.W.Frag) : PySem.W.kitOne K (.type "bool") (.type "bool") = some true := by first | rfl | kernel_rfl
theorem kit_ss (K : PySem.W.Frag) : PySem.W.kitOne K (.type "str") (.type "str") = some true := by first | rfl | kernel_rfl
theorem kit_si (K : PySem.W.Frag) : PySem.W.kitOne K (.type "str") (.type "int") = some false := by first | rfl | kernel_rfl
theorem kit_ll (K : PySem.W.Frag) : PySem.W.kitOne K (.type "list") (.type "list") = some true := by first | rfl | kernel_rfl
theorem kit_tt (K : PySem.W.Frag) : PySem.W.kitOne K (.type "tuple") (.type "tuple") = some true := by first | rfl | kernel_rfl
theorem call_isi : CallR X (.builtin "isinstance") (rIsi X.K) := by
 intro pins s σ H xs us Q I rs q
 unfold rIsi at q
 split at q
 ·rename_i x T
  obtain ⟨u, c, rfl, ru, rc⟩ := vals2 rs
  obtain rfl : c = Value.type T := rc
  have key : ∀ {t b}, TyOf X.K H x t → PySem.W.kitOne X.K t (.type T) = some b → Q (.bl b) H → wpAny (model X.prog X.w) X.A (call (.builtin "isinstance") [u, .type T]) (EP X pins σ Q) X.xe s := fun {t b} ty e h =>
   isinst_ok I ru ty e fun tk => ⟨.bl b, H, I.tok tk, rfl, h⟩
  split at q
  ·rename_i b e
   have h := q
   unfold isiF at e
   split at e <;> cases e
   ·exact key (.int _) (kit_ii _) h
   ·exact key (.int _) (kit_ib _) h
   ·exact key (.int _) (kit_is _) h
   ·exact key (.bl _) (kit_bi _) h
   ·exact key (.bl _) (kit_bb _) h
   ·exact key (.str _) (kit_ss _) h
   ·exact key (.str _) (kit_si _) h
  ·obtain ⟨t, b, ty, e, h⟩ := q
   exact key ty e h
 ·exact q.elim
theorem pe_ty {x : Str} {T : String} {pos : Pos} (hg : Gl X x) (hm : X.mg x = none) (hv : bootBuiltins x = some (.type T)) (hn : x ≠ "__name__" := by decide) (hd : (x == ("__debug__" : Str)) = false := by decide) : PE X (.Name x pos) (tC (.ty T)) :=
 pe_bltn hg hm hv rfl hn hd
end
theorem bt_len : bootBuiltins "len" = some (.builtin "len") := by decide +kernel
theorem bt_min : bootBuiltins "min" = some (.builtin "min") := by decide +kernel
theorem bt_max : bootBuiltins "max" = some (.builtin "max") := by decide +kernel
theorem bt_all : bootBuiltins "all" = some (.builtin "all") := by decide +kernel
theorem bt_isinstance : bootBuiltins "isinstance" = some (.builtin "isinstance") := by decide +kernel
theorem bt_int : bootBuiltins "int" = some (.type "int") := by decide +kernel
theorem bt_bool : bootBuiltins "bool" = some (.type "bool") := by decide +kernel
theorem bt_str : bootBuiltins "str" = some (.type "str") := by decide +kernel
theorem bt_tuple : bootBuiltins "tuple" = some (.type "tuple") := by decide +kernel
section
variable {K : PySem.W.Frag} {H : Hp} {Q : VK}
theorem rAddA_int {i j : Int} : rAddA K (.int i) (.int j) H Q = Q (.int (i + j)) H := rfl
theorem rAddA_str {i j : Str} : rAddA K (.str i) (.str j) H Q = (i.length + j.length ≤ sizeLine ∧ Q (.str (i ++ j)) H) := rfl
theorem rLenA_str {z : Str} : rLenA K [.str z] H Q = (z.length ≤ sizeLine ∧ Q (.int z.length) H) := rfl
theorem rLenA_ref {p : Addr} : rLenA K [.ref p] H Q = (∃ ys, (SqL K H p ys ∨ SqT K H p ys) ∧ Q (.int ys.length) H) := rfl
theorem rIsi_ii {i : Int} : rIsi K [.int i, .ty "int"] H Q = Q (.bl true) H := rfl
theorem rIsi_ib {i : Int} : rIsi K [.int i, .ty "bool"] H Q = Q (.bl false) H := rfl
theorem rIsi_is {i : Int} : rIsi K [.int i, .ty "str"] H Q = Q (.bl false) H := rfl
theorem rIsi_bi {i : Bool} : rIsi K [.bl i, .ty "int"] H Q = Q (.bl true) H := rfl
theorem rIsi_bb {i : Bool} : rIsi K [.bl i, .ty "bool"] H Q = Q (.bl true) H := rfl
theorem rIsi_ss {i : Str} : rIsi K [.str i, .ty "str"] H Q = Q (.bl true) H := rfl
theorem rIsi_si {i : Str} : rIsi K [.str i, .ty "int"] H Q = Q (.bl false) H := rfl
theorem rMinA_int {i j : Int} : rMinA [.int i, .int j] H Q = Q (.int (if j < i then j else i)) H := rfl
theorem rMaxA_int {i j : Int} : rMaxA [.int i, .int j] H Q = Q (.int (if i < j then j else i)) H := rfl
end
theorem cxOf_K {CX : CXT} {P : Program} {w : World} {K : PySem.W.Frag} {mg : Str → Option Value} {base : Heap} {N : List Str} {qual : Str} {scope : Scope} {f : Addr} {cd : Value} {A : Around} {outer : List Env} {s : Shared} {H : Hp} {E : XK} :
  (cxOf CX P w K mg base N qual scope f cd A outer s H E).K = K := rfl
end L2
set_option maxRecDepth 100000
namespace L2
open PySem PySem.Spec PyProof.Rows
section
variable {ta : TA} {tl : TE} {K : PySem.W.Frag} {g : TG} {tb : TS} {D : Ends} {σ : St} {H : Hp}
end
theorem law_fin {P : Program} {w : World} {K : PySem.W.Frag} {mg : Str → Option Value} {CX : CXT} {k : Nat} {fa : Addr} {x nm : Str} {st : Stmt} {sp : Sp} (hmg : mg nm = some (.ref fa)) (D : DefAt K mg nm st)
  (hb : ∀ (kV doc pm : Value) (an : Option Addr) (cdv ct : Value) (us : List Value), us.length = ([x] : List Str).length → bindArgs (PySem.W.fnOf nm nm (defArgs st) (defBody st) (defScope st) .none kV doc pm an cdv ct) ⟨us, []⟩ = pure (([x] : List Str).zip us))
  (ok : ∀ base : Heap, FnAt P w K mg base CX nm k [x] sp) :
  ∃ fd : FuncData, (∀ (s : Shared) (u : Value), BindsTo s fd ⟨[u], []⟩ [(x, u)]) ∧ ∀ base : Heap, K.In base → base.Ns mainGlobals mg → FnOk P w K mg base CX k fa fd [x] sp := by
 obtain ⟨f, fd, F, hm⟩ := D
 rw [hmg] at hm
 cases hm
 obtain ⟨oc, od, kV, doc, pm, an, cdv, ct, osl, e, lk, hcd⟩ := F.ex
 refine ⟨fd, fun s u => ?_, fun base _ _ => ?_⟩
 ·rw [e]
  exact .of_eq (hb kV doc pm an cdv ct [u] rfl)
 ·obtain ⟨f', fd', h, hm', _, _, oc', od', osl', lk'⟩ := ok base
  rw [hmg] at hm'
  cases hm'
  rw [lk] at lk'
  cases lk'
  exact h
noncomputable def spLaw (K : PySem.W.Frag) : Sp := fun vs H Q _ => match vs with
 | [.ref a] => ∃ ns : List Int, SqL K H a (ns.map V.int) ∧ ns.length ≤ 63 ∧ Only H ∧ ∀ H', Q (.bl true) H'
 | _ => False
theorem law_walk {l : PySem.W.OpenLaw} {k : Nat} {q : Program} {loose : List Str} {XP : (Str → Option Value) → Heap → Prop} {YP : World → Heap → Prop} {d : DefRec} {K : Params → PySem.W.Frag} {x : Str} (hn : l.most = some 63) (hdf : d.params.defaults = [])
  (hr : Room k callerA) (hY : ∀ (w : World) (h : Heap), YP w h → (K w.params).In h)
  (F : ∀ (w : World) (mg : Str → Option Value) (fa : Addr) (h : Heap), (K w.params).In h → h.Ns mainGlobals mg → mg d.name = some (.ref fa) →
   ∃ fd : FuncData, (∀ (s : Shared) (u : Value), BindsTo s fd ⟨[u], []⟩ [(x, u)]) ∧ ∀ base : Heap, (K w.params).In base → base.Ns mainGlobals mg → FnOk l.prog w (K w.params) mg base CX0 k fa fd [x] (spLaw (K w.params))) :
  PySem.W.WalkO q loose XP YP l.row.toRowW d [] (fun f vs => PySem.call f vs) :=
 L2.walk_ofK (n := 63) (CX := CX0) (sp := spLaw) hn (by decide) hdf hr hY F (fun K H a ns hl hO hS => ⟨ns, hS, hl, hO, fun _ => rfl⟩) fun _ _ _ _ z => z
end L2
set_option maxRecDepth 100000
namespace L2
open PySem PySem.Spec PyProof.Rows
noncomputable def Cx.comp (X : Cx) (scope : Scope) (cl : List (Str × Addr)) (C : Addr) (N : List Str) (s : Shared) (H : Hp) (ex : List Addr) : Cx :=
 { prog := X.prog, w := X.w, K := X.K, mg := X.mg, base := X.base, A := X.A, N := N, s₀ := s, H₀ := H, env := compEnvC scope cl C X.env, outer := X.stack, stack := X.stack, ex := ex, fn := fun _ => false, calm := X.calm, pn := [], xe := fun _ _ => False }
theorem closure_ok {env : Env} {scope : Scope} (h : ∀ y ∈ scope.names, y.2 = .free → ∃ c, env.cells.lookup y.1 = some c) :
  ∃ cl, closureFor scope env = pure cl ∧ (∀ y c, cl.lookup y = some c → env.cells.lookup y = some c) ∧ ∀ y ∈ scope.names, y.2 = .free → ∃ c, cl.lookup y.1 = some c := by
 have key : ∀ (l : List (Str × NameKind)) (acc : List (Str × Addr)), (∀ y ∈ l, y.2 = .free → ∃ c, env.cells.lookup y.1 = some c) → (∀ y c, acc.lookup y = some c → env.cells.lookup y = some c) →
   ∃ cl, (forIn l acc fun (x : Str × NameKind) (cs : List (Str × Addr)) => if (x.2 == NameKind.free) = true then do let a ← cellOf env x.1; pure (ForInStep.yield ((x.1, a) :: cs)) else pure (ForInStep.yield cs)) = (pure cl : Sem (List (Str × Addr))) ∧
    (∀ y c, cl.lookup y = some c → env.cells.lookup y = some c) ∧ (∀ y c, acc.lookup y = some c → ∃ c, cl.lookup y = some c) ∧ ∀ y ∈ l, y.2 = .free → ∃ c, cl.lookup y.1 = some c := by
  intro l
  induction l with
  | nil => intro acc _ ha; exact ⟨acc, rfl, ha, fun y c e => ⟨c, e⟩, fun y hy => nomatch hy⟩
  | cons x r ih =>
   intro acc hl ha
   obtain ⟨n, k⟩ := x
   by_cases hk : k = .free
   ·subst hk
    obtain ⟨c, hc⟩ := hl (n, .free) List.mem_cons_self rfl
    have ha' : ∀ y d, ((n, c) :: acc).lookup y = some d → env.cells.lookup y = some d := fun y d e => by
     simp only [List.lookup_cons] at e
     cases q : y == n with
     | true => rw [q] at e; cases e; rw [beq_iff_eq.mp q]; exact hc
     | false => rw [q] at e; exact ha y d e
    obtain ⟨cl, e, h1, h2, h3⟩ := ih ((n, c) :: acc) (fun y hy => hl y (List.mem_cons_of_mem _ hy)) ha'
    have top : ∃ d, cl.lookup n = some d := h2 n c (by simp [List.lookup_cons])
    refine ⟨cl, ?_, h1, fun y d q => ?_, fun y hy hf => ?_⟩
    ·rw [List.forIn_cons]
     have ec : cellOf env n = pure c := by unfold cellOf; rw [hc]
     show ((if (NameKind.free == NameKind.free) = true then (do let a ← cellOf env n; pure (ForInStep.yield ((n, a) :: acc))) else _) >>= _) = _
     rw [if_pos (by decide), ec]
     exact e
    ·cases z : y == n with
     | true => rw [beq_iff_eq.mp z]; exact top
     | false => exact h2 y d (by simp only [List.lookup_cons, z]; exact q)
    ·rcases List.mem_cons.mp hy with rfl | hy
     ·exact top
     ·exact h3 y hy hf
   ·have hb : (k == NameKind.free) = false := by simpa using hk
    obtain ⟨cl, e, h1, h2, h3⟩ := ih acc (fun y hy => hl y (List.mem_cons_of_mem _ hy)) ha
    refine ⟨cl, ?_, h1, h2, fun y hy hf => ?_⟩
    ·rw [List.forIn_cons]
     show ((if (k == NameKind.free) = true then _ else pure (ForInStep.yield acc)) >>= _) = _
     rw [hb, if_neg Bool.false_ne_true]
     exact e
    ·rcases List.mem_cons.mp hy with rfl | hy
     ·exact absurd hf hk
     ·exact h3 y hy hf
 obtain ⟨cl, e, h1, _, h3⟩ := key scope.names [] h (fun y c q => by simp at q)
 refine ⟨cl, ?_, h1, h3⟩
 unfold closureFor
 exact (bind_congr (fun _ => rfl)).trans (by rw [e]; rfl)
theorem relabel_look {scope : Scope} {env : Env} {x : Str} {k : NameKind} (h : (relabel scope env).names.lookup x = some k) : scope.names.lookup x = some k ∨ (scope.names.lookup x = some .free ∧ k = .cell) := by
 unfold relabel at h
 have key : ∀ l : List (Str × NameKind), (l.map fun (n, k) => if (k == NameKind.free && env.scope.kind == .function && env.kindOf n == some .cell) then (n, NameKind.cell) else (n, k)).lookup x = some k → l.lookup x = some k ∨ (l.lookup x = some .free ∧ k = .cell) := by
  intro l
  induction l with
  | nil => intro h; simp at h
  | cons y r ih =>
   obtain ⟨n, j⟩ := y
   intro h
   rw [List.map_cons] at h
   simp only [List.lookup_cons]
   cases q : x == n with
   | true =>
    by_cases hc : (j == NameKind.free && env.scope.kind == .function && env.kindOf n == some .cell) = true
    ·simp only [hc, if_true, List.lookup_cons, q] at h
     cases h
     have : j = .free := by
      simp only [Bool.and_eq_true, beq_iff_eq] at hc
      exact hc.1.1
     subst this
     exact .inr ⟨rfl, rfl⟩
    ·have hc' : (j == NameKind.free && env.scope.kind == .function && env.kindOf n == some .cell) = false := by simpa using hc
     simp only [hc', Bool.false_eq_true, if_false, List.lookup_cons, q] at h
     exact .inl h
   | false =>
    by_cases hc : (j == NameKind.free && env.scope.kind == .function && env.kindOf n == some .cell) = true
    ·simp only [hc, if_true, List.lookup_cons, q] at h
     exact ih h
    ·have hc' : (j == NameKind.free && env.scope.kind == .function && env.kindOf n == some .cell) = false := by simpa using hc
     simp only [hc', Bool.false_eq_true, if_false, List.lookup_cons, q] at h
     exact ih h
 exact key _ h
theorem lt_ne {h : Heap} {b n : Addr} {o : Obj} (e : h.get? b = some o) (hn : h.objs.size ≤ n) : b ≠ n := Nat.ne_of_lt (Nat.lt_of_lt_of_le (Heap.lt_size e) hn)
structure CScope (X : Cx) (scope : Scope) (N : List Str) (nv : Nat) (ix : List Nat) : Prop where
 kind : scope.kind = .function
 nocell : ∀ y ∈ scope.names, y.2 ≠ .cell
 names : ∀ y ∈ scope.names, y.2 = .local → scope.names.lookup y.1 = some .local
 fre : ∀ y ∈ scope.names, y.2 = .free → X.env.kindOf y.1 = some .cell ∨ X.env.kindOf y.1 = some .free
 len : N.length = nv + ix.length
 at_ : ∀ j y, N[nv + j]? = some y → ∃ i, ix[j]? = some i ∧ X.N[i]? = some y ∧ (X.env.kindOf y = some .cell ∨ X.env.kindOf y = some .free) ∧ scope.names.lookup y = some .free
noncomputable def compSt (nv : Nat) (ix : List Nat) (σ : St) : St := List.replicate nv none ++ ix.map fun i => (σ[i]?).join
section
variable {X : Cx} {pins : List (Addr × Obj)} {σ : St} {H : Hp} {s : Shared} {scope : Scope} {N : List Str} {nv : Nat} {ix : List Nat}
theorem comp_start {h1 : Heap} {tk : Nat} {cl : List (Str × Addr)} {fp : List Addr} {C D : Addr} {oD : Obj} (S : CScope X scope N nv ix) (I : Inv X pins σ H s) (hcl : ∀ y c, cl.lookup y = some c → X.env.cells.lookup y = some c)
  (hcl2 : ∀ y ∈ scope.names, y.2 = .free → ∃ c, cl.lookup y.1 = some c) (hfp : ∀ b ∈ fp, FpOk X pins H b) (hob : ∀ b ∈ fp, b < s.heap.objs.size)
  (hC : s.heap.objs.size ≤ C) (hD : s.heap.objs.size ≤ D) (hDC : D ≠ C) (old : ∀ b o, s.heap.get? b = some o → h1.get? b = some o) {m : Str → Option Value} (hm : h1.Ns C m) (hoD : h1.get? D = some oD) (hdat : ∀ v, oD.data ≠ .cell v) :
  Inv (X.comp scope cl C N s H fp) [(D, oD)] (compSt nv ix σ) H { s with heap := h1, toks := tk } := by
 refine ⟨⟨I.ok.mod, S.kind, I.ok.glob, I.ok.blt, hC, fun x y c e1 e2 => I.ok.inj x y c (hcl x c e1) (hcl y c e2), fun x hx => ?_, fun _ _ z => absurd z Bool.false_ne_true, I.ok.hd, I.ok.frames, .inl rfl, fun b hb => ⟨fun z => ?_, fun x c e => (hfp b hb).2.2.2.2.1 x c (hcl x c e)⟩, I.bs,
  Nat.le_trans I.ok.bsz I.sz, fun b o e hb => ?_, fun b hb z => ?_, I.stack, I.stkFree⟩, rfl, I.bare, Un.kept old, ⟨m, hm, fun i x v e1 e2 e3 => ?_⟩, fun x c e => ?_, I.hok.fresh hC, fun x c e => I.freeC x c (hcl x c e), fun p hp => ?_, I.hok.kept old, ?_⟩
 ·have hx' : (relabel scope X.env).names.lookup x = some .cell ∨ (relabel scope X.env).names.lookup x = some .free := hx
  have fr : scope.names.lookup x = some .free := by
   rcases hx' with z | z
   ·rcases relabel_look z with q | q
    ·exact absurd rfl (S.nocell _ (PySem.mem_of_lookup q))
    ·exact q.1
   ·rcases relabel_look z with q | q
    ·exact q
    ·cases q.2
  exact hcl2 (x, .free) (PySem.mem_of_lookup fr) rfl
 ·exact Nat.ne_of_lt (Nat.lt_of_lt_of_le (hob b hb) hC) z
 ·rcases (hfp b hb).2.2.2.1 with z | z
  ·exact I.ok.noex b o e z
  ·exact lt_ne e (Nat.le_trans I.ok.bsz z) rfl
 ·rcases List.mem_cons.mp (I.stkSub b z) with q | q
  ·exact (hfp b hb).2.1 q
  ·exact (hfp b hb).2.2.1 q
 ·have e1' : N[i]? = some x := e1
  by_cases hi : i < nv
  ·have e2' : (compSt nv ix σ)[i]? = some (some v) := e2
   unfold compSt at e2'
   rw [List.getElem?_append_left (by simpa using hi), List.getElem?_replicate, if_pos hi] at e2'
   cases e2'
  ·obtain ⟨j, rfl⟩ : ∃ j, i = nv + j := ⟨i - nv, by omega⟩
   obtain ⟨k, hk, hN, hkd, hsc⟩ := S.at_ j x e1'
   have e2' : (compSt nv ix σ)[nv + j]? = some (some v) := e2
   unfold compSt at e2'
   rw [List.getElem?_append_right (by simp), List.length_replicate, Nat.add_sub_cancel_left, List.getElem?_map, hk] at e2'
   have e4 : σ[k]? = some (some v) := by
    have e5 : (σ[k]?).join = some v := by simpa using e2'
    cases q : σ[k]? with
    | none => rw [q] at e5; cases e5
    | some z => rw [q] at e5; have : z = some v := e5; rw [this]
   obtain ⟨m0, _, hl⟩ := I.loc
   have vis : Vis X.env.scope x := by
    rcases hkd with z | z
    ·exact .inr (.inl z)
    ·exact .inr (.inr z)
   obtain ⟨u, r, l⟩ := hl k x v hN e4 vis
   refine ⟨u, r, ?_⟩
   rcases l with ⟨z, _⟩ | ⟨_, c, hc, hcell⟩
   ·rcases hkd with q | q <;> rw [q] at z <;> cases z
   ·obtain ⟨c', hc'⟩ := hcl2 (x, .free) (PySem.mem_of_lookup hsc) rfl
    have := hcl x c' hc'
    rw [hc] at this
    cases this
    refine .inr ⟨?_, c, hc', hcell.keeps old⟩
    rcases e3 with z | z | z
    ·rcases relabel_look z with q | q
     ·rw [hsc] at q; cases q
     ·cases q.2
    ·exact .inl z
    ·exact .inr z
 ·obtain ⟨v, q⟩ := I.cell x c (hcl x c e)
  exact ⟨v, q.keeps old⟩
 ·have hp' : p ∈ [(D, oD)] := hp
  have e : p = (D, oD) := by simpa using hp'
  subst e
  refine ⟨hoD, I.hok.fresh hD, hDC, fun z => ?_, hdat⟩
  rcases List.mem_cons.mp (I.stkSub D z) with q | q
  ·exact Nat.ne_of_gt (Nat.lt_of_lt_of_le I.lt hD) q
  ·exact I.nofs hD q
 ·show (compSt nv ix σ).length = N.length
  unfold compSt
  rw [List.length_append, List.length_replicate, List.length_map, S.len]
theorem comp_end {cl : List (Str × Addr)} {fp : List Addr} {C D : Addr} {its : List Value} {ys : List V} {n : Nat} {σ' : St} {H' : Hp} {s' : Shared} (I : Inv X pins σ H s) (hfp : ∀ b ∈ fp, FpOk X pins H b) (hD : s.heap.objs.size ≤ D)
  (J : Inv (X.comp scope cl C N s H fp) [(D, { cls := .type "list", data := .seq its.toArray n })] σ' H' s') (r : Vals ys its) (hl : ys.length ≤ sizeLine) : Inv X pins σ (upd H' D (.lst ys)) s' := by
 obtain ⟨eD, fD, _⟩ := J.pin (D, { cls := .type "list", data := .seq its.toArray n }) (by simp [Cx.comp])
 have U : Un (frs X.stack) fp H H' s.heap s'.heap := J.base
 have neD : ∀ b o, s.heap.get? b = some o → b ≠ D := fun b o e => lt_ne e hD
 refine I.call' (ch := fp) J.os ⟨U.keep, U.slot, fun b o e n hx => ?_, U.there, fun b xs e => ?_, fun b o xs e => ?_, fun b ps e => ?_⟩ (fun b u e => ?_) J.bare fun b hb => (hfp b hb).2.2.2 |> fun z => ⟨z.1, (hfp b hb).2.1, z.2.1, z.2.2⟩
 ·rw [upd_ne (neD b o e)]; exact U.free b o e n hx
 ·have q := U.tups b xs e
  rw [upd_ne (ne_of_none q fD)]; exact q
 ·have q := U.frzs b o xs e
  rw [upd_ne (ne_of_none q fD)]; exact q
 ·obtain ⟨more, q⟩ := U.tbls b ps e
  exact ⟨more, by rw [upd_ne (ne_of_none q fD)]; exact q⟩
 ·by_cases hb : b = D
  ·subst hb
   rw [upd_same] at e
   cases e
   exact ⟨hl, its, n, r, eD⟩
  ·rw [upd_ne hb] at e
   exact (J.hok b u e).stay (fun c v _ q => q) (fun c q => by rw [upd_ne (ne_of_none q fD)]; exact q) fun c xs q => by rw [upd_ne (ne_of_none q fD)]; exact q
end
section
variable {prog : Program} {w : World} {A : Around} {E : Value → Shared → Prop} {R : Result → Shared → Prop} {s : Shared}
theorem compLoop_own {elt target iter : Expr} {ifs : List Expr} {scope : Scope} {pos : Pos} {it acc : Value} {env : Env} (I : Nat → Shared → Prop)
  (turn : ∀ n s, I n s → wpAny (model prog w) A (pyNext it) (fun r s₁ => match r with
   | none => R (.ok .next) s₁
   | some v => wpAny (model prog w) A (letOwnedTupleGo target it v) (fun _ s₀ => wpAny (model prog w) A (assign target env v) (fun _ s₂ =>
     wpAny (model prog w) A (forIn ifs true fun c r => if r = true then do let ok ← isTrue c env (eval c env); pure (ForInStep.yield ok) else pure (ForInStep.yield r)) (fun ok s₃ =>
      if ok = true then wpAny (model prog w) A (eval elt env) (fun x s₄ =>
       wpAny (model prog w) A (call (.builtin "list.append") [acc, x]) (fun _ s₅ => ∃ m, m < n ∧ I m s₅) (fun _ _ => False) s₄) (fun _ _ => False) s₃
      else ∃ m, m < n ∧ I m s₃) (fun _ _ => False) s₂) (fun _ _ => False) s₀) (fun _ _ => False) s₁) (fun _ _ => False) s)
  (n : Nat) (h : I n s) :
  codeAny (model prog w) A (.compLoop (.ListComp elt [⟨target, iter, ifs, 0⟩] scope pos) 0 it acc env) R s := by
 refine codeAny_loop rfl I (fun n s hI => ?_) n h
 show wpAny _ A ((compTurn (.ListComp elt [⟨target, iter, ifs, 0⟩] scope pos) 0 it acc env).onRaise (fun x => do noteFrame x env; theTreesLotGoes x)) _ _ s
 refine wpAny_noted ?_
 rw [compTurn_list]
 refine wpAny_bind (wpAny_standAt (wpAny_bind (wpAny_mono (turn n s hI) (fun r s₁ h₁ => ?_) fun _ _ h' => h'.elim)))
 cases r with
 | none => exact wpAny_pure h₁
 | some v =>
  refine wpAny_bind (wpAny_mono h₁ (fun _ s₀ h₀ => ?_) fun _ _ h' => h'.elim)
  refine wpAny_bind (wpAny_mono h₀ (fun _ s₂ h₂ => wpAny_bind (wpAny_mono h₂ (fun ok s₃ h₃ => ?_) fun _ _ h' => h'.elim)) fun _ _ h' => h'.elim)
  cases ok with
  | false => exact wpAny_pure ⟨rfl, h₃⟩
  | true =>
   exact wpAny_bind (wpAny_bind (wpAny_mono h₃ (fun x s₄ h₄ => wpAny_bind (wpAny_mono h₄ (fun _ s₅ h₅ => wpAny_pure (wpAny_pure ⟨rfl, h₅⟩)) fun _ _ h' => h'.elim)) fun _ _ h' => h'.elim))
end
noncomputable def tYes : TT := fun _ H Q => Q true H
noncomputable def compR (J : It) (g : TG) (tt : TT) (te : TE) (σ₀ : St) (H1 : Hp) (Q : List V → Hp → Prop) : Prop :=
 ∃ W : Nat → Nat → List V → St → Hp → Prop, (∃ m, W 0 m [] σ₀ H1) ∧ ∀ i m ys σ' H', W i m ys σ' H' →
  (J.stop i H' ∧ Q ys H') ∨ (J.go i H' ∧ ys.length < sizeLine ∧ ∃ N : List V → St → Hp → Prop, (∀ ys' σ'' H'', N ys' σ'' H'' → ∃ m', m' < m ∧ W (i + 1) m' ys' σ'' H'') ∧
   ∀ x H'', J.yld i H' x H'' → g x σ' H'' fun σ2 H2 => tt σ2 H2 fun b H3 => if b = true then te σ2 H3 fun y H4 => N (ys ++ [y]) σ2 H4 else N ys σ2 H3)
noncomputable def tComp (nv : Nat) (ix : List Nat) (wi : TI) (g : TG) (tt : TT) (te : TE) : TE := fun σ H Q => wi σ H fun J H1 => compR J g tt te (compSt nv ix σ) H1 fun ys H' => ys.length ≤ sizeLine ∧ ∀ D, H' D = none → Q (.ref D) (upd H' D (.lst ys))
section
variable {X : Cx} {tg elt iter : Expr} {ifs : List Expr} {scope : Scope} {N : List Str} {nv : Nat} {ix : List Nat} {pos spos : Pos} {wi : TI} {g : TG} {tt : TT} {te : TE}
noncomputable def PTs (X : Cx) (ifs : List Expr) (tt : TT) : Prop :=
 ∀ (pins : List (Addr × Obj)) (s : Shared) (σ : St) (H : Hp) (Q : Bool → Hp → Prop), Inv X pins σ H s → tt σ H Q →
  wpAny (model X.prog X.w) X.A (forIn ifs true fun c r => if r = true then do let ok ← isTrue c X.env (eval c X.env); pure (ForInStep.yield ok) else pure (ForInStep.yield r)) (TP X pins σ Q) X.xe s
theorem pts_nil : PTs X [] tYes := fun _ _ _ H _ I h => wpAny_tests_nil ⟨H, I, h⟩
theorem pts_one {c : Expr} (h : PT X c tt) : PTs X [c] tt := fun pins s σ H Q I hw => wpAny_tests_one (h pins s σ H Q I hw)
theorem comp_core {use : Option (Value → Sem Unit)} {Qv : Value → Shared → Prop} {pins : List (Addr × Obj)} {s : Shared} {σ : St} {H : Hp} {Q : List V → Hp → Prop} (hc : X.calm = true) (S : CScope X scope N nv ix) (hi : PI X tg iter wi)
  (hg : ∀ cl C s H ex, PG (X.comp scope cl C N s H ex) tg g) (ht : ∀ cl C s H ex, PTs (X.comp scope cl C N s H ex) ifs tt) (he : ∀ cl C s H ex, PE (X.comp scope cl C N s H ex) elt te) (I : Inv X pins σ H s)
  (h : wi σ H fun J H1 => compR J g tt te (compSt nv ix σ) H1 fun ys H' => ys.length ≤ sizeLine ∧ Q ys H')
  (fin : ∀ ys D C H' s' (s2 : Shared) (σ2 : St), Q ys H' → H' D = none → D ≠ C → Inv X pins σ (upd H' D (.lst ys)) s' → (∃ m, s'.heap.Ns C m) → (∀ H'', H'' C = none → FpOk X pins H'' C) → H' C = none → compPost (model X.prog X.w) X.A X.xe use Qv (.ref D) C (.ok .next) s')
  (hs : ∀ x, foldedSetIterable iter X.env x = pure x) :
  wpAny (model X.prog X.w) X.A (comprehension (.ListComp elt [⟨tg, iter, ifs, 0⟩] scope pos) scope X.env (firstIterPos [⟨tg, iter, ifs, 0⟩] pos) (newList []) false (eval iter X.env) use) Qv X.xe s := by
 obtain ⟨cl, hclos, hcl, hcl2⟩ := closure_ok (env := X.env) (scope := scope) fun y hy hf => I.ok.has y.1 (S.fre y hy hf)
 refine wpAny_comprehension_free (use := use) rfl hs hclos S.kind S.names (thn (hi pins s σ H _ I h) fun v s1 h1 => thn h1 fun itv s2 h2 => ?_)
 obtain ⟨it, fp, tn, J, H2, e, I2, T, st2, f2, W, ⟨m0, w0⟩, turn⟩ := h2
 subst e
 refine wpAny_newObj_type (wpAny_newFunctionEnv S.nocell (by intro y hy; simp at hy) (fun h₁ hns₁ hsb₁ => ?_) S.kind)
 dsimp only at hns₁ hsb₁ ⊢
 generalize hH2 : s2.heap.push { cls := .type "list", dict := none, data := .seq ([] : List Value).toArray } = G2 at hns₁ hsb₁ ⊢
 have hC : G2.objs.size = s2.heap.objs.size + 1 := by rw [← hH2, Heap.size_push]
 have hDC : s2.heap.objs.size ≠ G2.objs.size := by rw [hC]; exact Nat.ne_of_lt (Nat.lt_succ_self _)
 have old : ∀ b o, s2.heap.get? b = some o → h₁.get? b = some o := fun b o e => hsb₁.extBut b o (lt_ne e (by rw [hC]; exact Nat.le_succ _)) (Heap.get?_push_of_some _ (hH2 ▸ Heap.get?_push_of_some _ e))
 have hacc : h₁.get? s2.heap.objs.size = some { cls := .type "list", data := .seq ([] : List Value).toArray 0 } := hsb₁.extBut _ _ hDC (Heap.get?_push_of_some _ (hH2 ▸ Heap.get?_push_size _ rfl))
 have hob : ∀ b ∈ fp, b < s2.heap.objs.size := fun b hb => by
  obtain ⟨o, e, _⟩ := T.obj _ _ st2 b hb
  exact Heap.lt_size e
 have hCle : s2.heap.objs.size ≤ G2.objs.size := by rw [hC]; exact Nat.le_succ _
 have I4 : ∀ tk, Inv (X.comp scope cl G2.objs.size N s2 H2 fp) [(s2.heap.objs.size, { cls := .type "list", data := .seq ([] : List Value).toArray 0 })] (compSt nv ix σ) H2 { s2 with heap := h₁, toks := tk } := fun tk =>
  comp_start S I2 hcl hcl2 f2 hob hCle (Nat.le_refl _) hDC old hns₁ hacc (fun v z => by cases z)
 have hst₁ : tn 0 h₁ := T.keep _ _ _ st2 fun b _ o e => old b o e
 have stat : ∀ {H' : Hp} {pns : List (Addr × Obj)}, (∀ p ∈ pns, p.1 = s2.heap.objs.size) → (∀ b ∈ fp, H' b = none) → ∀ b ∈ fp, FpOk (X.comp scope cl G2.objs.size N s2 H2 fp) pns H' b := fun {H' pns} hp hn b hb => by
  obtain ⟨f0, f1, f3, f4, f5, f6⟩ := f2 b hb
  have hlt := hob b hb
  refine ⟨hn b hb, fun z => ?_, fun z => ?_, .inl hb, fun x c e => f5 x c (hcl x c e), fun p hp' z => ?_⟩
  ·exact Nat.ne_of_lt (Nat.lt_of_lt_of_le hlt hCle) z
  ·rcases List.mem_cons.mp (I2.stkSub b z) with q | q
   ·exact f1 q
   ·exact f3 q
  ·have hp'' : p ∈ pns := by simpa [Cx.comp] using hp'
   exact Nat.ne_of_gt (by rw [hp p hp'']; exact hlt) z
 have loop : ∀ s₃ : Shared, s₃ = { s2 with heap := h₁, toks := s2.toks + ([] : List (Str × Value)).length } →
   codeAny (model X.prog X.w) X.A (.compLoop (.ListComp elt [⟨tg, iter, ifs, 0⟩] scope pos) 0 (.ref it) (.ref s2.heap.objs.size) (compEnvC scope cl G2.objs.size X.env))
    (compPost (model X.prog X.w) X.A X.xe use Qv (.ref s2.heap.objs.size) G2.objs.size) s₃ := by
  rintro s₃ rfl
  refine compLoop_own (fun n s' => ∃ i ys its σ' H', Inv (X.comp scope cl G2.objs.size N s2 H2 fp) [(s2.heap.objs.size, { cls := .type "list", data := .seq its.toArray its.length })] σ' H' s' ∧ tn i s'.heap ∧ (∀ b ∈ fp, H' b = none) ∧ Vals ys its ∧ W i n ys σ' H') ?_ m0
   ⟨0, [], [], _, H2, I4 _, hst₁, fun b hb => (f2 b hb).1, .nil, w0⟩
  rintro n s' ⟨i, ys, its, σ', H', I', st', fr', rv, w'⟩
  have pin1 : ∀ {o : Obj}, ∀ p ∈ [(s2.heap.objs.size, o)], p.1 = s2.heap.objs.size := fun {o} p hp => by
   exact congrArg Prod.fst (List.mem_singleton.mp hp)
  rcases turn i n ys σ' H' w' with ⟨stop, hl, qn⟩ | ⟨go, hlen, Nx, hN, step⟩
  ·refine thn (T.done (X.comp scope cl G2.objs.size N s2 H2 fp) rfl rfl rfl hc i _ s' σ' H' (fun _ _ => False) I' (stat pin1 fr') st' stop) fun r s4 ⟨hr, I5⟩ => ?_
   subst hr
   obtain ⟨m5, hm5, _⟩ := I5.loc
   have fD := (I5.pin (s2.heap.objs.size, { cls := .type "list", data := .seq its.toArray its.length }) (List.mem_append_right _ (by simp))).2.1
   exact fin ys _ _ H' s4 s2 σ' qn fD hDC (comp_end I2 f2 (Nat.le_refl _) I5 rv hl) ⟨m5, hm5⟩ (fun H'' hn => I2.fpOk hCle hn) I5.free
  ·refine thn (T.item (X.comp scope cl G2.objs.size N s2 H2 fp) rfl rfl rfl hc i _ s' σ' H' (fun _ _ => False) I' (stat pin1 fr') st' go) fun r s4 ⟨u, hr, h4⟩ => ?_
   subst hr
   refine thn h4 fun _ s5 ⟨x, H5, I5, r5, y5, st5, fr5⟩ => ?_
   have I5' := I5.pinned (stat pin1 fr5) (T.obj _ _ st5)
   refine thn (hg _ _ _ _ _ _ s5 σ' H5 x u _ I5' r5 (step x H5 y5)) fun _ s6 ⟨σ6, H6, I6, q6⟩ => ?_
   refine thn (ht _ _ _ _ _ _ s6 σ6 H6 _ I6 q6) fun b s7 ⟨H7, I7, q7⟩ => ?_
   have back : ∀ {σ8 : St} {H8 : Hp} {s8 : Shared}, Inv (X.comp scope cl G2.objs.size N s2 H2 fp) ([(s2.heap.objs.size, { cls := .type "list", data := .seq its.toArray its.length })] ++ pinsAt fp s5.heap) σ8 H8 s8 → tn (i + 1) s8.heap ∧ ∀ b ∈ fp, H8 b = none := fun {σ8 H8 s8} J =>
    ⟨T.keep _ _ _ st5 fun b hb o e => (J.pin (b, o) (List.mem_append_right _ (List.mem_append_right _ (mem_pinsAt hb e)))).1, fun b hb => by
     obtain ⟨o, e, d⟩ := T.obj _ _ st5 b hb
     exact (J.pin (b, o) (List.mem_append_right _ (List.mem_append_right _ (mem_pinsAt hb e)))).2.1⟩
   cases b with
   | false =>
    rw [if_neg Bool.false_ne_true] at q7
    obtain ⟨m', hm, w7⟩ := hN _ _ _ q7
    exact ⟨m', hm, i + 1, ys, its, σ6, H7, I7.unpinned, (back I7).1, (back I7).2, rv, w7⟩
   | true =>
    rw [if_pos rfl] at q7
    refine thn (he _ _ _ _ _ _ s7 σ6 H7 _ I7 q7) fun y s8 ⟨yv, H8, I8, r8, q8⟩ => ?_
    obtain ⟨eD, fD, nD, nfD, dD⟩ := I8.pin (s2.heap.objs.size, { cls := .type "list", data := .seq its.toArray its.length }) (List.mem_append_right _ (by simp))
    refine append_at (hsz := by rw [List.size_toArray, ← rv.length]; exact Nat.le_of_lt hlen) eD fun h₅ hs₅ hD₅ => ?_
    obtain ⟨m', hm, w8⟩ := hN _ _ _ q8
    have fpD : s2.heap.objs.size ∉ fp := fun z => Nat.lt_irrefl _ (hob _ z)
    have I9 : Inv (X.comp scope cl G2.objs.size N s2 H2 fp) [] σ6 H8 s8 := I8.pins_of fun p hp => absurd hp (by simp)
    have fk := I2.fpOk (H' := H8) (Nat.le_refl _) fD
    have I10 : Inv (X.comp scope cl G2.objs.size N s2 H2 fp) [] σ6 H8 { s8 with heap := h₅, toks := s8.toks } :=
     I9.turned (it := s2.heap.objs.size) (fun b o hb e => hs₅.extBut b o hb e) fD nD (.inr (Nat.le_refl _)) (fun x c e => fk.2.2.2.2.1 x c (hcl x c e)) (fun p hp => absurd hp (by simp [Cx.comp]))
    refine ⟨m', hm, i + 1, ys ++ [yv], its ++ [y], σ6, H8, I10.pins_of fun p hp => ?_, ?_, (back I8).2, rv.append (.cons r8 .nil), w8⟩
    ·have e : p = (s2.heap.objs.size, { cls := .type "list", data := .seq (its ++ [y]).toArray (its ++ [y]).length }) := by simpa using hp
     subst e
     refine ⟨?_, fD, nD, nfD, fun v z => by cases z⟩
     show h₅.get? s2.heap.objs.size = _
     rw [hD₅, List.push_toArray, List.length_append, List.length_singleton]
    ·exact T.keep _ _ _ (back I8).1 fun b hb o e => hs₅.extBut b o (fun z => fpD (by have z' : b = s2.heap.objs.size := z; rw [← z']; exact hb)) e
 exact codeAny_compStart_list (loop _ rfl) (T.self _ 0 _ _ _ hst₁ (loop _ rfl))
theorem pe_comp (hc : X.calm = true) (S : CScope X scope N nv ix) (hi : PI X tg iter wi)
  (hg : ∀ cl C s H ex, PG (X.comp scope cl C N s H ex) tg g) (ht : ∀ cl C s H ex, PTs (X.comp scope cl C N s H ex) ifs tt) (he : ∀ cl C s H ex, PE (X.comp scope cl C N s H ex) elt te)
  (hs : ∀ x, foldedSetIterable iter X.env x = pure x := by intro _; rfl) : PE X (.ListComp elt [⟨tg, iter, ifs, 0⟩] scope pos) (tComp nv ix wi g tt te) := by
 intro pins s σ H Q I h
 rw [eval_ListComp]
 refine comp_core (Q := fun ys H' => ∀ D, H' D = none → Q (.ref D) (upd H' D (.lst ys))) (use := none) hc S hi hg ht he I ?_ (fun ys D C H' s' s2 σ2 q fD hDC J hm fk fC => ?_) hs
 ·exact h
 ·obtain ⟨m, hm⟩ := hm
  refine ⟨m, hm, fun h' sb => ⟨.ref D, _, ?_, rfl, q D fD⟩⟩
  have fC' : upd H' D (.lst ys) C = none := by rw [upd_ne (Ne.symm hDC)]; exact fC
  obtain ⟨f0, f1, f2, f3, f4, f5⟩ := fk _ fC'
  exact J.turned (t' := s'.toks) (it := C) (fun b o hb e => sb.extBut b o hb e) f0 f1 f3 f4 f5
theorem ps_setc {i : Nat} {x : Str} {px : Pos} (hc : X.calm = true) (hN : X.N.Nodup) (hi' : X.N[i]? = some x) (hx : X.env.scope.names.lookup x = some .local) (S : CScope X scope N nv ix) (hi : PI X tg iter wi)
  (hg : ∀ cl C s H ex, PG (X.comp scope cl C N s H ex) tg g) (ht : ∀ cl C s H ex, PTs (X.comp scope cl C N s H ex) ifs tt) (he : ∀ cl C s H ex, PE (X.comp scope cl C N s H ex) elt te)
  (hsw : swapsWith (.ListComp elt [⟨tg, iter, ifs, 0⟩] scope pos) (some (.Name x px)) spos.line X.env = pure true := by rfl)
  (hs : ∀ x, foldedSetIterable iter X.env x = pure x := by intro _; rfl) : PS X (.Assign [.Name x px] (.ListComp elt [⟨tg, iter, ifs, 0⟩] scope pos) spos) (tAsg (tComp nv ix wi g tt te) (gName i)) := by
 intro pins s σ H D I h
 rw [exec_Assign_Name_used _ _ _ _ hsw]
 refine wpAny_bind (wpAny_standAt (wpAny_bind ?_))
 show wpAny _ _ (do let _ ← comprehension (.ListComp elt [⟨tg, iter, ifs, 0⟩] scope pos) scope X.env (firstIterPos [⟨tg, iter, ifs, 0⟩] pos) (newList []) false (eval iter X.env) (some (assign (.Name x px) X.env))) _ _ s
 refine wpAny_bind (thn (comp_core (Q := fun ys H' => ∀ l, H' l = none → D.nx (σ.set i (some (.ref l))) (upd H' l (.lst ys))) (use := some (assign (.Name x px) X.env)) (Qv := fun _ s' => SP X pins D .next s') hc S hi hg ht he I h (fun ys l C H' s' s2 σ2 q fD hDC J hm fk fC => ?_) hs)
  fun _ s' hq => wpAny_pure (wpAny_pure hq))
 obtain ⟨m, hm⟩ := hm
 have fC' : upd H' l (.lst ys) C = none := by rw [upd_ne (Ne.symm hDC)]; exact fC
 obtain ⟨f0, f1, f2, f3, f4, f5⟩ := fk _ fC'
 show wpAny _ _ (assign (.Name x px) X.env (.ref l)) _ _ s'
 refine wpAny_assign_Name (store_ok2 J hN hi' (.inl hx) (v := .ref l) (u := .ref l) rfl (fun s'' J' ⟨a, sb, ha⟩ => ?_) (.inr hx))
 have hCa : C ≠ a := by
  rcases ha with z | z
  ·rw [z]; exact f1
  ·exact Ne.symm (f4 x a z)
 refine ⟨m, hm.sameBut sb hCa, fun h' sb' => ⟨_, _, ?_, q l fD⟩⟩
 exact J'.turned (t' := s''.toks) (it := C) (fun b o hb e => sb'.extBut b o hb e) f0 f1 f3 f4 f5
end
end L2
set_option maxRecDepth 100000
namespace L2
open PySem PySem.Spec PyProof.Rows
noncomputable def Its (x : Str) : It := ⟨fun i _ => i < x.cps.size, fun i H v H' => H' = H ∧ ∃ c, x.cps[i]? = some c ∧ v = .str ⟨#[c]⟩, fun i _ => x.cps.size ≤ i⟩
theorem turn_str {P : Program} {w : World} {K : PySem.W.Frag} {tg : Expr} (it : Addr) (x : Str) (t : Tok) (T : String) (hT : T = "str_ascii_iterator" ∨ T = "str_iterator") : Turn P w K tg (Its x) [it] it (fun i h => h.IsStrIter it T x t i) where
 mem := by simp
 obj := fun i h st b hb => by
  have e : b = it := by simpa using hb
  subst e
  obtain ⟨o, e, c, d⟩ := st
  exact ⟨o, e, fun v z => by rw [d] at z; cases z⟩
 keep := fun i h h' st k => by
  obtain ⟨o, e, r⟩ := st
  exact ⟨o, k it (by simp) o e, r⟩
 item := by
  intro X hP hw hK hc i pins s σ H E I hf st hg
  subst hP hw hK
  obtain ⟨f0, f1, f2, f3, f4, f5⟩ := hf it (by simp)
  have hg' : i < x.cps.size := hg
  have W : Walks X.prog X.w X.A it [it] [it] x.cps.size (SignAt x) (fun i h => h.IsStrIter it T x t i) := by
   rcases hT with rfl | rfl
   ·exact Walks.strAscii (I.ok.hd hc) it x t
   ·exact Walks.strWide (I.ok.hd hc) it x t
  refine W.item i s _ _ hg' st fun v h' tk hv st' kk => ?_
  obtain ⟨c, u, hcx, rfl⟩ := hv
  have I1 : Inv X pins σ H { s with heap := h', toks := tk } := I.turned (fun b o hb e => kk b o (by simpa using hb) e) f0 f1 f3 f4 f5
  obtain ⟨o, e, c', d⟩ := id st'
  refine ⟨_, rfl, go_of (s := { s with heap := h', toks := tk }) e c' d (by rcases hT with rfl | rfl <;> decide) ⟨.str ⟨#[c]⟩, H, I1, ⟨u, rfl⟩, ⟨rfl, c, hcx, rfl⟩, st', fun b hb => (hf b hb).1⟩⟩
 done := by
  intro X hP hw hK hc i pins s σ H E I hf st hg
  subst hP hw hK
  obtain ⟨f0, f1, f2, f3, f4, f5⟩ := hf it (by simp)
  have hg' : x.cps.size ≤ i := hg
  have he : x.cps[i]? = none := by simp [hg']
  rcases hT with rfl | rfl
  ·exact wpAny_pyNext_ascii_end (I.ok.hd hc) st he fun h' eb => ⟨rfl, I.turned (t' := s.toks) (fun b o hb e => eb b o hb e) f0 f1 f3 f4 f5⟩
  ·exact wpAny_pyNext_wide_end (I.ok.hd hc) st he fun h' eb => ⟨rfl, I.turned (t' := s.toks) (fun b o hb e => eb b o hb e) f0 f1 f3 f4 f5⟩
 self := fun _ _ _ _ _ st h => by
  rcases hT with rfl | rfl
  ·exact wpAny_pyIter_striter_ascii st h
  ·exact wpAny_pyIter_striter_wide st h
noncomputable def seqR (K : PySem.W.Frag) (x : V) (H1 : Hp) (R : It → Hp → Prop) : Prop := match x with
 | .ref a => (∃ xs, SqL K H1 a xs ∧ R (Itl K a) H1) ∨ (∃ xs, SqT K H1 a xs ∧ R (Itt K a) H1)
 | .str z => R (Its z) H1
 | _ => False
noncomputable def iSeq (K : PySem.W.Frag) (tl : TE) : TI := fun σ H R => tl σ H fun x H1 => seqR K x H1 R
theorem pi_seq {X : Cx} {tg l : Expr} {tl : TE} (hl : PE X l tl) : PI X tg l (iSeq X.K tl) := by
 intro pins s σ H R I h
 refine thn (hl pins s σ H _ I h) fun v s1 ⟨x, H1, I1, r1, q1⟩ => ?_
 cases x with
 | ref a =>
  cases r1
  rcases q1 with ⟨xs, hq, q⟩ | ⟨xs, hq, q⟩
  ·obtain ⟨its, rv, p, hz⟩ := I1.list hq
   refine wpAny_pyIter_list p.isList ?_
   refine ⟨s1.heap.objs.size, [s1.heap.objs.size], _, _, H1, rfl, I1.kept (t' := s1.toks) fun b o e => Heap.get?_push_of_some _ e, turn_list a _, ⟨_, Heap.get?_push_size _ rfl, rfl, rfl⟩, fun b hb => ?_, q⟩
   have e : b = s1.heap.objs.size := by simpa using hb
   subst e
   exact I1.fpOk (Nat.le_refl _) (I1.hok.fresh (Nat.le_refl _))
  ·obtain ⟨its, rv, p, hz⟩ := I1.tuple hq
   refine wpAny_pyIter_tuple (show s1.heap.IsTuple a its.toArray from p) ?_
   refine ⟨s1.heap.objs.size, [s1.heap.objs.size], _, _, H1, rfl, I1.kept (t' := s1.toks) fun b o e => Heap.get?_push_of_some _ e, turn_tuple a _, ⟨_, Heap.get?_push_size _ rfl, rfl, rfl⟩, fun b hb => ?_, q⟩
   have e : b = s1.heap.objs.size := by simpa using hb
   subst e
   exact I1.fpOk (Nat.le_refl _) (I1.hok.fresh (Nat.le_refl _))
 | str z =>
  obtain ⟨t, rfl⟩ := r1
  have fp : ∀ b ∈ [s1.heap.objs.size], FpOk X pins H1 b := fun b hb => by
   have e : b = s1.heap.objs.size := by simpa using hb
   subst e
   exact I1.fpOk (Nat.le_refl _) (I1.hok.fresh (Nat.le_refl _))
  cases ha : z.cps.all (· < 128)
  ·exact wpAny_pyIter_wide ha ⟨s1.heap.objs.size, [s1.heap.objs.size], _, _, H1, rfl, I1.kept (t' := s1.toks) fun b o e => Heap.get?_push_of_some _ e, turn_str _ z t _ (.inr rfl), ⟨_, Heap.get?_push_size _ rfl, rfl, rfl⟩, fp, q1⟩
  ·exact wpAny_pyIter_ascii ha ⟨s1.heap.objs.size, [s1.heap.objs.size], _, _, H1, rfl, I1.kept (t' := s1.toks) fun b o e => Heap.get?_push_of_some _ e, turn_str _ z t _ (.inl rfl), ⟨_, Heap.get?_push_size _ rfl, rfl, rfl⟩, fp, q1⟩
 | _ => exact q1.elim
noncomputable def forR (J : It) (g : TG) (tb : TS) (D : Ends) (σ : St) (H : Hp) : Prop := ∃ W : Nat → Nat → St → Hp → Prop, (∃ m, W 0 m σ H) ∧ ∀ i m σ H, W i m σ H →
 (J.stop i H ∧ D.nx σ H) ∨ (J.go i H ∧ ∃ N : St → Hp → Prop, (∀ σ' H', N σ' H' → ∃ m', m' < m ∧ W (i + 1) m' σ' H') ∧ ∀ x H', J.yld i H x H' → g x σ H' fun σ2 H2 => tb { D with nx := N, ct := N, bk := D.nx } σ2 H2)
section
variable {K : PySem.W.Frag} {tl : TE} {g : TG} {tb : TS} {D : Ends} {σ : St} {H : Hp} {tt : TT} {te : TE} {nv : Nat} {ix : List Nat} {Q : VK} {ta : TA}
theorem tFor_seq : tFor (iSeq K tl) g tb D σ H = tl σ H fun x H1 => seqR K x H1 fun J H2 => forR J g tb D σ H2 := rfl
theorem tComp_seq : tComp nv ix (iSeq K tl) g tt te σ H Q = tl σ H fun x H1 => seqR K x H1 fun J H2 => compR J g tt te (compSt nv ix σ) H2 fun ys H' => ys.length ≤ sizeLine ∧ ∀ l, H' l = none → Q (.ref l) (upd H' l (.lst ys)) := rfl
noncomputable def rngR1 (vs : List V) (H1 : Hp) (R : It → Hp → Prop) : Prop := match vs with
 | [.int j] => (-(2 ^ 62) ≤ j ∧ j < 2 ^ 62) ∧ R (Itr 0 j.toNat) H1
 | _ => False
noncomputable def rngR2 (vs : List V) (H1 : Hp) (R : It → Hp → Prop) : Prop := match vs with
 | [.int i, .int j] => (-(2 ^ 62) ≤ i ∧ i < 2 ^ 62 ∧ -(2 ^ 62) ≤ j ∧ j < 2 ^ 62) ∧ R (Itr i (j - i).toNat) H1
 | _ => False
noncomputable def jRng1 (ta : TA) : TI := fun σ H R => ta σ H fun vs H1 => rngR1 vs H1 R
noncomputable def jRng2 (ta : TA) : TI := fun σ H R => ta σ H fun vs H1 => rngR2 vs H1 R
noncomputable def rngR3 (vs : List V) (H1 : Hp) (R : It → Hp → Prop) : Prop := match vs with
 | [.int i, .int j, .int c] => (-(2 ^ 61) ≤ i ∧ i < 2 ^ 61 ∧ -(2 ^ 61) ≤ j ∧ j < 2 ^ 61 ∧ 0 < c ∧ c < 1000000) ∧ R (ItrS i c (rcount i j c)) H1
 | _ => False
noncomputable def jRng3 (ta : TA) : TI := fun σ H R => ta σ H fun vs H1 => rngR3 vs H1 R
theorem tFor_rng1 : tFor (jRng1 ta) g tb D σ H = ta σ H fun vs H1 => rngR1 vs H1 fun J H2 => forR J g tb D σ H2 := rfl
theorem tFor_rng2 : tFor (jRng2 ta) g tb D σ H = ta σ H fun vs H1 => rngR2 vs H1 fun J H2 => forR J g tb D σ H2 := rfl
theorem tFor_rng3 : tFor (jRng3 ta) g tb D σ H = ta σ H fun vs H1 => rngR3 vs H1 fun J H2 => forR J g tb D σ H2 := rfl
theorem tComp_rng1 : tComp nv ix (jRng1 ta) g tt te σ H Q = ta σ H fun vs H1 => rngR1 vs H1 fun J H2 => compR J g tt te (compSt nv ix σ) H2 fun ys H' => ys.length ≤ sizeLine ∧ ∀ l, H' l = none → Q (.ref l) (upd H' l (.lst ys)) := rfl
theorem tComp_rng2 : tComp nv ix (jRng2 ta) g tt te σ H Q = ta σ H fun vs H1 => rngR2 vs H1 fun J H2 => compR J g tt te (compSt nv ix σ) H2 fun ys H' => ys.length ≤ sizeLine ∧ ∀ l, H' l = none → Q (.ref l) (upd H' l (.lst ys)) := rfl
theorem tComp_rng3 : tComp nv ix (jRng3 ta) g tt te σ H Q = ta σ H fun vs H1 => rngR3 vs H1 fun J H2 => compR J g tt te (compSt nv ix σ) H2 fun ys H' => ys.length ≤ sizeLine ∧ ∀ l, H' l = none → Q (.ref l) (upd H' l (.lst ys)) := rfl
theorem rngR1_int {j : Int} {R : It → Hp → Prop} : rngR1 [.int j] H R = ((-(2 ^ 62) ≤ j ∧ j < 2 ^ 62) ∧ R (Itr 0 j.toNat) H) := rfl
theorem rngR2_int {i j : Int} {R : It → Hp → Prop} : rngR2 [.int i, .int j] H R = ((-(2 ^ 62) ≤ i ∧ i < 2 ^ 62 ∧ -(2 ^ 62) ≤ j ∧ j < 2 ^ 62) ∧ R (Itr i (j - i).toNat) H) := rfl
theorem rngR3_int {i j c : Int} {R : It → Hp → Prop} : rngR3 [.int i, .int j, .int c] H R = ((-(2 ^ 61) ≤ i ∧ i < 2 ^ 61 ∧ -(2 ^ 61) ≤ j ∧ j < 2 ^ 61 ∧ 0 < c ∧ c < 1000000) ∧ R (ItrS i c (rcount i j c)) H) := rfl
end
section
variable {X : Cx} {tg : Expr}
theorem pj_range1 {a : Expr} {ta : TA} {p pos : Pos} (hg : Gl X "range") (hm : X.mg "range" = none) (ha : PA X [a] ta) (hs : starEach [a] X.env = [(false, eval a X.env)] := by rfl) : PI X tg (.Call (.Name "range" p) [a] [] pos) (jRng1 ta) := by
 intro pins s σ H R I h
 refine Call_ (ld_blt I hg hm boot_range (PyProof.Rows.callWith_type1 (thn (ha pos pins s σ H _ I h) fun us s1 ⟨vs, H1, I1, r1, q1⟩ => ?_) hs rfl))
 replace q1 : rngR1 vs H1 R := q1
 unfold rngR1 at q1
 split at q1
 ·obtain ⟨⟨q1, q2⟩, q⟩ := q1
  cases r1 with
  | cons r rr =>
   cases rr
   obtain ⟨t, rfl⟩ := r
   exact call_range_1 (range_it I1 (by omega) (by omega) q1 q2 (by simpa using q))
 ·exact q1.elim
theorem pj_range2 {a b : Expr} {ta : TA} {p pos : Pos} (hg : Gl X "range") (hm : X.mg "range" = none) (ha : PA X [a, b] ta) (hs : starEach [a, b] X.env = [(false, eval a X.env), (false, eval b X.env)] := by rfl) (hs2 : starEach [b] X.env = [(false, eval b X.env)] := by rfl) :
  PI X tg (.Call (.Name "range" p) [a, b] [] pos) (jRng2 ta) := by
 intro pins s σ H R I h
 refine Call_ (ld_blt I hg hm boot_range (PyProof.Rows.callWith_type1 (thn (ha pos pins s σ H _ I h) fun us s1 ⟨vs, H1, I1, r1, q1⟩ => ?_) (by rw [hs, hs2]) (by rw [hs2]; rfl)))
 replace q1 : rngR2 vs H1 R := q1
 unfold rngR2 at q1
 split at q1
 ·obtain ⟨⟨q1, q2, q3, q4⟩, q⟩ := q1
  cases r1 with
  | cons r rr =>
   cases rr with
   | cons r' rr =>
    cases rr
    obtain ⟨t, rfl⟩ := r
    obtain ⟨t', rfl⟩ := r'
    exact call_range_2 (range_it I1 q1 q2 q3 q4 q)
 ·exact q1.elim
theorem pj_range3 {a b c : Expr} {ta : TA} {p pos : Pos} (hg : Gl X "range") (hm : X.mg "range" = none) (ha : PA X [a, b, c] ta) (hs : starEach [a, b, c] X.env = [(false, eval a X.env), (false, eval b X.env), (false, eval c X.env)] := by rfl) (hs2 : starEach [b, c] X.env = [(false, eval b X.env), (false, eval c X.env)] := by rfl) :
  PI X tg (.Call (.Name "range" p) [a, b, c] [] pos) (jRng3 ta) := by
 intro pins s σ H R I h
 refine Call_ (ld_blt I hg hm boot_range (PyProof.Rows.callWith_type1 (thn (ha pos pins s σ H _ I h) fun us s1 ⟨vs, H1, I1, r1, q1⟩ => ?_) (by rw [hs, hs2]) (by rw [hs2]; rfl)))
 replace q1 : rngR3 vs H1 R := q1
 unfold rngR3 at q1
 split at q1
 ·obtain ⟨⟨q1, q2, q3, q4, q5, q6⟩, q⟩ := q1
  cases r1 with
  | cons r rr =>
   cases rr with
   | cons r' rr =>
    cases rr with
    | cons r'' rr =>
     cases rr
     obtain ⟨t, rfl⟩ := r
     obtain ⟨t', rfl⟩ := r'
     obtain ⟨t'', rfl⟩ := r''
     exact call_range_3 (by omega) (range_itS I1 (small_S q1 q2 q3 q4 q5 (by omega)) q5 q) (Or.inl (PyProof.noPylong_small (by omega)))
 ·exact q1.elim
end
section
variable {K : PySem.W.Frag} {g : TG} {tb : TS} {D : Ends} {σ : St} {H : Hp}
theorem fo_list {a : Addr} {xs : List V} (hS : SqL K H a xs) (Pv : Nat → St → Hp → Prop) (h0 : Pv 0 σ H) (hl : ∀ i σ H, i ≤ xs.length → Pv i σ H → SqL K H a xs)
  (hs : ∀ i x σ H, xs[i]? = some x → Pv i σ H → g x σ H fun σ2 H2 => tb { D with nx := Pv (i + 1), ct := Pv (i + 1), bk := D.nx } σ2 H2) (hd : ∀ σ H, Pv xs.length σ H → D.nx σ H) :
  seqR K (.ref a) H fun J H2 => forR J g tb D σ H2 := .inl ⟨xs, hS, for_list Pv h0 hl hs hd⟩
theorem fo_rng {lo : Int} {n : Nat} (Pv : Nat → St → Hp → Prop) (h0 : Pv 0 σ H)
  (hs : ∀ (i : Nat) σ H, i < n → Pv i σ H → g (.int (lo + i)) σ H fun σ2 H2 => tb { D with nx := Pv (i + 1), ct := Pv (i + 1), bk := D.nx } σ2 H2) (hd : ∀ σ H, Pv n σ H → D.nx σ H) :
  forR (Itr lo n) g tb D σ H := for_range Pv h0 hs hd
theorem fo_rngS {lo c : Int} {n : Nat} (Pv : Nat → St → Hp → Prop) (h0 : Pv 0 σ H)
  (hs : ∀ (i : Nat) σ H, i < n → Pv i σ H → g (.int (lo + i * c)) σ H fun σ2 H2 => tb { D with nx := Pv (i + 1), ct := Pv (i + 1), bk := D.nx } σ2 H2) (hd : ∀ σ H, Pv n σ H → D.nx σ H) :
  forR (ItrS lo c n) g tb D σ H := for_rangeS Pv h0 hs hd
end
section
variable {K : PySem.W.Frag} {tt : TT} {te : TE} {H : Hp} {tail : St} {Q : List V → Hp → Prop} {p : V → Bool} {f : V → V}
theorem comp_pure {J : It} {n : Nat} {xs : List V} (hn : xs.length = n) (hz : n ≤ sizeLine) (go : ∀ i, i < n → J.go i H) (stop : J.stop n H) (yl : ∀ i x H', i < n → J.yld i H x H' → H' = H ∧ xs[i]? = some x)
  (ht : ∀ x ∈ xs, ∀ Q : Bool → Hp → Prop, Q (p x) H → tt (some x :: tail) H Q) (he : ∀ x ∈ xs, p x = true → ∀ Q : VK, Q (f x) H → te (some x :: tail) H Q) (q : Q ((xs.filter p).map f) H) :
  compR J (gName 0) tt te (none :: tail) H Q := by
 refine ⟨fun i m ys σ' H' => i ≤ n ∧ m = n - i ∧ ys = ((xs.take i).filter p).map f ∧ (∃ v, σ' = v :: tail) ∧ H' = H, ⟨n, Nat.zero_le _, rfl, by simp, ⟨_, rfl⟩, rfl⟩, ?_⟩
 rintro i m ys σ' H' ⟨hi, rfl, rfl, ⟨v, rfl⟩, rfl⟩
 by_cases e : i = n
 ·subst e
  refine .inl ⟨stop, ?_⟩
  rw [List.take_of_length_le (by omega)]
  exact q
 ·have hlt : i < n := by omega
  refine .inr ⟨go i hlt, ?_, fun ys' σ'' H'' => ys' = ((xs.take (i + 1)).filter p).map f ∧ (∃ v, σ'' = v :: tail) ∧ H'' = H', fun ys' σ'' H'' ⟨a, b, c⟩ => ⟨n - (i + 1), by omega, by omega, rfl, a, b, c⟩, fun x H'' y => ?_⟩
  ·have h1 : (((xs.take i).filter p).map f).length ≤ i := by
    rw [List.length_map]
    exact Nat.le_trans (List.length_filter_le _ _) (by rw [List.length_take]; omega)
   omega
  ·obtain ⟨rfl, hx⟩ := yl i x H'' hlt y
   have hm : x ∈ xs := List.mem_of_getElem? hx
   have tk : xs.take (i + 1) = xs.take i ++ [x] := by
    rw [List.take_succ, hx]; rfl
   show tt _ _ _
   refine ht x hm _ ?_
   cases hp : p x with
   | true =>
    rw [if_pos rfl]
    refine he x hm hp _ ⟨?_, ⟨_, rfl⟩, rfl⟩
    rw [tk, List.filter_append, List.map_append]
    simp [hp]
   | false =>
    rw [if_neg Bool.false_ne_true]
    refine ⟨?_, ⟨_, rfl⟩, rfl⟩
    rw [tk, List.filter_append, List.map_append]
    simp [hp]
theorem co_tup {a : Addr} {xs : List V} (hS : SqT K H a xs) (hz : xs.length ≤ sizeLine) (ht : ∀ x ∈ xs, ∀ Q : Bool → Hp → Prop, Q (p x) H → tt (some x :: tail) H Q) (he : ∀ x ∈ xs, p x = true → ∀ Q : VK, Q (f x) H → te (some x :: tail) H Q) (q : Q ((xs.filter p).map f) H) :
  seqR K (.ref a) H fun J H2 => compR J (gName 0) tt te (none :: tail) H2 Q :=
 .inr ⟨xs, hS, comp_pure (n := xs.length) rfl hz (fun i hi => ⟨xs, xs[i], hS, by simp [hi]⟩) ⟨xs, hS, Nat.le_refl _⟩ (fun i x H' hi y => ⟨y.1, y.2 xs hS⟩) ht he q⟩
noncomputable def signsV (z : Str) : List V := z.cps.toList.map fun c => .str ⟨#[c]⟩
theorem co_str {z : Str} (hz : z.length ≤ sizeLine) (ht : ∀ x ∈ signsV z, ∀ Q : Bool → Hp → Prop, Q (p x) H → tt (some x :: tail) H Q) (he : ∀ x ∈ signsV z, p x = true → ∀ Q : VK, Q (f x) H → te (some x :: tail) H Q) (q : Q (((signsV z).filter p).map f) H) :
  seqR K (.str z) H fun J H2 => compR J (gName 0) tt te (none :: tail) H2 Q := by
 show compR (Its z) _ _ _ _ _ _
 refine comp_pure (n := z.cps.size) (xs := signsV z) (by simp [signsV]) hz (fun i hi => hi) (Nat.le_refl _) (fun i x H' hi y => ?_) ht he q
 obtain ⟨e, c, hc, rfl⟩ := y
 refine ⟨e, ?_⟩
 unfold signsV
 rw [List.getElem?_map, Array.getElem?_toList, hc]
 rfl
noncomputable def rngV (lo : Int) (n : Nat) : List V := (List.range n).map fun i : Nat => .int (lo + (i : Int))
theorem co_rng {lo : Int} {n : Nat} (hz : n ≤ sizeLine) (ht : ∀ i : Nat, i < n → ∀ Q : Bool → Hp → Prop, Q (p (.int (lo + i))) H → tt (some (.int (lo + i)) :: tail) H Q) (he : ∀ i : Nat, i < n → p (.int (lo + i)) = true → ∀ Q : VK, Q (f (.int (lo + i))) H → te (some (.int (lo + i)) :: tail) H Q)
  (q : Q (((rngV lo n).filter p).map f) H) : compR (Itr lo n) (gName 0) tt te (none :: tail) H Q := by
 refine comp_pure (n := n) (xs := rngV lo n) (by simp [rngV]) hz (fun i hi => hi) (Nat.le_refl _) (fun i x H' hi y => ?_) (fun x hx => ?_) (fun x hx => ?_) q
 ·obtain ⟨e, rfl⟩ := y
  refine ⟨e, ?_⟩
  unfold rngV
  rw [List.getElem?_map, List.getElem?_range hi]
  rfl
 ·obtain ⟨i, hi, rfl⟩ := List.mem_map.mp hx
  exact ht i (List.mem_range.mp hi)
 ·obtain ⟨i, hi, rfl⟩ := List.mem_map.mp hx
  exact he i (List.mem_range.mp hi)
theorem compSt_one {ix : List Nat} {σ : St} : compSt 1 ix σ = none :: ix.map fun i => (σ[i]?).join := rfl
end
end L2
set_option maxRecDepth 100000
namespace L2
open PySem PySem.Spec PyProof.Rows
section
variable {X : Cx}
noncomputable def rIsB (neg : Bool) : R2 := fun x y H Q => match y with
 | .bl b => Q (.bl (if neg then !decide (x = .bl b) else decide (x = .bl b))) H
 | _ => False
theorem dec_blbl {a b : Bool} : decide (V.bl a = V.bl b) = decide (a = b) := by
 cases a <;> cases b <;> decide
theorem rIsB_bl {a b : Bool} {H : Hp} {Q : VK} : rIsB false (.bl a) (.bl b) H Q = Q (.bl (decide (a = b))) H := by
 show Q (.bl (if false = true then _ else decide (V.bl a = V.bl b))) H = _
 rw [if_neg Bool.false_ne_true, dec_blbl]
theorem rIsnotB_bl {a b : Bool} {H : Hp} {Q : VK} : rIsB true (.bl a) (.bl b) H Q = Q (.bl (!decide (a = b))) H := by
 show Q (.bl (if true = true then !decide (V.bl a = V.bl b) else _)) H = _
 rw [if_pos rfl, dec_blbl]
noncomputable def rIsN (neg : Bool) : R2 := fun x y H Q => match y with
 | .non => Q (.bl (if neg then !decide (x = .non) else decide (x = .non))) H
 | _ => False
theorem op_isNA : OpR X (compareOp .Is) (rIsN false) := OpR.imp op_isN fun x y H Q h => by
 unfold rIsN at h
 split at h
 ·exact ⟨rfl, h⟩
 ·exact h.elim
theorem op_notNA : OpR X (compareOp .IsNot) (rIsN true) := OpR.imp op_notN fun x y H Q h => by
 unfold rIsN at h
 split at h
 ·exact ⟨rfl, h⟩
 ·exact h.elim
theorem rIsN_f {x : V} {H : Hp} {Q : VK} : rIsN false x .non H Q = Q (.bl (decide (x = .non))) H := rfl
theorem rIsN_t {x : V} {H : Hp} {Q : VK} : rIsN true x .non H Q = Q (.bl (!decide (x = .non))) H := rfl
noncomputable def rBitlen : V → List V → Hp → VK → Prop := fun x vs H Q => match x, vs with
 | .int i, [] => Q (.int ((Builtin.Int.intBits i : Nat) : Int)) H
 | _, _ => False
theorem tyV_int {K : PySem.W.Frag} {i : Int} {H : Hp} : tyV K "int" (.int i) H = True := by
 show ("int" = "int") = True
 simp
theorem tyV_str {K : PySem.W.Frag} {z : Str} {H : Hp} : tyV K "str" (.str z) H = True := by
 show ("str" = "str") = True
 simp
theorem rBitlen_int {i : Int} {H : Hp} {Q : VK} : rBitlen (.int i) [] H Q = Q (.int ((Builtin.Int.intBits i : Nat) : Int)) H := rfl
noncomputable def rSlS : V → Option Int → Option Int → Hp → VK → Prop := fun x lo hi H Q => ∃ z, x = .str z ∧ z.length ≤ sizeLine ∧ Q (.str (Txt.slice z lo hi)) H
theorem part_val {v : Value} {o : Option Int} (h : IsPart v o) : ∃ l : Option (Int × Tok), v = partValue l ∧ l.map (·.1) = o := by
 cases h with
 | none => exact ⟨none, rfl, rfl⟩
 | int i t => exact ⟨some (i, t), rfl, rfl⟩
theorem sl_str : SlR X rSlS := by
 intro pins s σ H x v vl vu lo hi sl Q I rx hs pl pu h
 obtain ⟨z, rfl, hz, q⟩ := h
 obtain ⟨t, rfl⟩ := rx
 obtain ⟨l, rfl, el⟩ := part_val pl
 obtain ⟨u, rfl, eu⟩ := part_val pu
 refine ⟨"str", _, F.slot_str_getitem.lookup, typeIs_str _ _ _, wpAny_getItem_str_slice (l := l) (u := u) (st := none) hs rfl ?_⟩
 unfold sliceMade
 have e : slicePicked z l u none = Builtin.Str.strSliceIndices lo hi 1 z.length := by
  unfold slicePicked
  rw [el, eu]
  rfl
 rw [e]
 have hq : Txt.slice z lo hi = if ((1 : Int) == 1 && (Builtin.Str.strSliceIndices lo hi 1 z.length).length == z.length) = true then z else ⟨((Builtin.Str.strSliceIndices lo hi 1 z.length).filterMap (z.cps[·]?)).toArray⟩ := rfl
 have hle := Txt.slice_le z lo hi
 rw [hq] at q hle
 show (if ((1 : Int) == 1 && (Builtin.Str.strSliceIndices lo hi 1 z.length).length == z.length) = true then Made.val (.str z t) else _).post _ s
 by_cases c : ((1 : Int) == 1 && (Builtin.Str.strSliceIndices lo hi 1 z.length).length == z.length) = true
 ·rw [if_pos c] at q ⊢
  exact ⟨.str z, H, I, ⟨t, rfl⟩, q⟩
 ·rw [if_neg c] at q hle ⊢
  exact ⟨Nat.le_trans hle hz, .str _, H, I.tok _, ⟨_, rfl⟩, q⟩
noncomputable def rSlA (K : PySem.W.Frag) : V → Option Int → Option Int → Hp → VK → Prop := fun x lo hi H Q => match x with
 | .ref a => (∃ xs, SqL K H a xs ∧ ∀ p, H p = none → Q (.ref p) (upd H p (.lst (cutV xs lo hi)))) ∨ rSlT K (.ref a) lo hi H Q
 | .str z => z.length ≤ sizeLine ∧ Q (.str (Txt.slice z lo hi)) H
 | _ => False
theorem SlR.imp {r r' : V → Option Int → Option Int → Hp → VK → Prop} (h : SlR X r) (i : ∀ x lo hi H Q, r' x lo hi H Q → r x lo hi H Q) : SlR X r' :=
 fun pins s σ H x v vl vu lo hi sl Q I rx hs pl pu q => h pins s σ H x v vl vu lo hi sl Q I rx hs pl pu (i _ _ _ _ _ q)
theorem sl_A : SlR X (rSlA X.K) := by
 refine SlR.imp (sl_list.or (sl_tup.or sl_str)) fun x lo hi H Q h => ?_
 unfold rSlA at h
 split at h
 ·rcases h with ⟨xs, h1, h2⟩ | h
  ·exact .inl ⟨_, xs, rfl, h1, h2⟩
  ·exact .inr (.inl h)
 ·exact .inr (.inr ⟨_, rfl, h.1, h.2⟩)
 ·exact h.elim
theorem rSlA_str {K : PySem.W.Frag} {z : Str} {lo hi : Option Int} {H : Hp} {Q : VK} : rSlA K (.str z) lo hi H Q = (z.length ≤ sizeLine ∧ Q (.str (Txt.slice z lo hi)) H) := rfl
theorem rSlA_list {K : PySem.W.Frag} {a : Addr} {xs : List V} {lo hi : Option Int} {H : Hp} {Q : VK} (hS : SqL K H a xs) (h : ∀ p, H p = none → Q (.ref p) (upd H p (.lst (cutV xs lo hi)))) : rSlA K (.ref a) lo hi H Q := .inl ⟨xs, hS, h⟩
noncomputable def rInA (K : PySem.W.Frag) (neg : Bool) : R2 := fun x y H Q => match y with
 | .ref p => ∃ xs, (SqL K H p xs ∨ SqT K H p xs) ∧ flatV x = true ∧ xs.all flatV = true ∧ Q (.bl (if neg then !inV x xs else inV x xs)) H
 | .str j => (match x with
  | .str i => Q (.bl (if neg then !(!(Builtin.Str.occurrences j i 0 j.length 1).isEmpty) else !(Builtin.Str.occurrences j i 0 j.length 1).isEmpty)) H
  | _ => False)
 | _ => False
theorem op_inA : OpR X (compareOp .In) (rInA X.K false) := by
 refine OpR.imp (OpR.or op_in_seq op_in_str) fun x y H Q h => ?_
 unfold rInA at h
 split at h
 ·obtain ⟨xs, h1, h2, h3, h4⟩ := h
  exact .inl ⟨_, xs, rfl, h1, h2, h3, h4⟩
 ·split at h
  ·exact .inr ⟨_, _, rfl, rfl, h⟩
  ·exact h.elim
 ·exact h.elim
theorem rInA_ref {K : PySem.W.Frag} {neg : Bool} {x : V} {p : Addr} {H : Hp} {Q : VK} : rInA K neg x (.ref p) H Q = (∃ xs, (SqL K H p xs ∨ SqT K H p xs) ∧ flatV x = true ∧ xs.all flatV = true ∧ Q (.bl (if neg then !inV x xs else inV x xs)) H) := rfl
theorem rInA_str {K : PySem.W.Frag} {neg : Bool} {i j : Str} {H : Hp} {Q : VK} : rInA K neg (.str i) (.str j) H Q = Q (.bl (if neg then !(!(Builtin.Str.occurrences j i 0 j.length 1).isEmpty) else !(Builtin.Str.occurrences j i 0 j.length 1).isEmpty)) H := rfl
end
inductive Dt where
 | non | int (i : Int) | str (z : Str) | l (ds : List Dt) | t (ds : List Dt)
noncomputable def Den (K : PySem.W.Frag) (H : Hp) : Nat → V → Dt → Prop
 | 0, x, d => (x = .non ∧ d = .non) ∨ (∃ i, x = .int i ∧ d = .int i) ∨ (∃ z, x = .str z ∧ d = .str z)
 | n + 1, x, d => Den K H n x d ∨ (∃ a xs ds, x = .ref a ∧ d = .l ds ∧ SqL K H a xs ∧ Paired (Den K H n) xs ds) ∨ (∃ a xs ds, x = .ref a ∧ d = .t ds ∧ SqT K H a xs ∧ Paired (Den K H n) xs ds)
theorem Paired.get {α β : Type} {F : α → β → Prop} : ∀ {xs : List α} {ys : List β} {i : Nat} {x : α}, Paired F xs ys → xs[i]? = some x → ∃ y, ys[i]? = some y ∧ F x y
 | _, _, _, _, .nil, e => by simp at e
 | _, _, 0, _, .cons r _, e => by simp at e; subst e; exact ⟨_, rfl, r⟩
 | _, _, i + 1, x, .cons _ t, e => by
  obtain ⟨u, h1, h2⟩ := Paired.get (i := i) (x := x) t (by simpa using e)
  exact ⟨u, by simpa using h1, h2⟩
open Classical in
theorem all_range_eq {α : Type} {xs ys : List α} {e : Nat → Bool} (hl : xs.length = ys.length) (h : ∀ j a b, xs[j]? = some a → ys[j]? = some b → e j = decide (a = b)) : (List.range xs.length).all e = decide (xs = ys) := by
 rw [Bool.eq_iff_iff, List.all_eq_true, decide_eq_true_eq]
 constructor
 ·intro q
  refine List.ext_getElem hl fun j h1 h2 => ?_
  have := q j (List.mem_range.mpr h1)
  rw [h j xs[j] ys[j] (by simp [h1]) (by simp [h2]), decide_eq_true_eq] at this
  exact this
 ·rintro rfl j hj
  have hj' := List.mem_range.mp hj
  rw [h j xs[j] xs[j] (by simp [hj']) (by simp [hj']), decide_eq_true_eq]
section
variable {X : Cx} {pins : List (Addr × Obj)} {σ : St} {H : Hp} {s : Shared}
open Classical in
theorem paired_det {F G : V → Dt → Prop} : ∀ {xs : List V} {ds es : List Dt}, Paired F xs ds → Paired G xs es → (∀ x d e, F x d → G x e → d = e) → ds = es
 | _, _, _, .nil, .nil, _ => rfl
 | _, _, _, .cons r t, .cons r' t', f => by rw [f _ _ _ r r', paired_det t t' f]
theorem list_not_tuple {a : Addr} {xs ys : List V} (I : Inv X pins σ H s) (h : SqL X.K H a xs) (h' : SqT X.K H a ys) : False := by
 obtain ⟨its, _, p, _⟩ := I.list h
 obtain ⟨its', _, p', _⟩ := I.tuple h'
 obtain ⟨o, n, e, c, _⟩ := p
 obtain ⟨o', e', c', _⟩ := p'
 rw [e] at e'
 cases e'
 rw [c] at c'
 injection c' with z
 exact absurd z (by decide)
theorem size_ne {its its2 : List Value} (h : ¬ its.length = its2.length) : (its.toArray.size != its2.toArray.size) = true := by
 rw [List.size_toArray, List.size_toArray, bne_iff_ne]
 exact h
open Classical in
open Classical in
theorem all_items {ds es : List Dt} {n : Nat} (hn : n = ds.length) (hl : ds.length = es.length) : (List.range n).all (fun j => decide (ds[j]? = es[j]?)) = decide (ds = es) := by
 subst hn
 exact all_range_eq hl fun j a b ha hb => by
  rw [ha, hb, Bool.eq_iff_iff, decide_eq_true_eq, decide_eq_true_eq]
  exact ⟨fun q => Option.some.inj q, fun q => by rw [q]⟩
open Classical in
end
noncomputable def rEqA (K : PySem.W.Frag) (neg : Bool) : R2 := fun x y H Q => match x, y with
 | .ref a, .ref b => ∃ n d e, n ≤ 60 ∧ Den K H n (.ref a) d ∧ Den K H n (.ref b) e ∧ ((d = e ∧ Q (.bl (!neg)) H) ∨ (d ≠ e ∧ Q (.bl neg) H))
 | x, y => scal x y = true ∧ Q (.bl (if neg then !decide (x = y) else decide (x = y))) H
section
variable {X : Cx}
open Classical in
open Classical in
end
section
variable {K : PySem.W.Frag} {H : Hp} {Q : VK}
theorem rEqA_int {i j : Int} : rEqA K false (.int i) (.int j) H Q = Q (.bl (decide (i = j))) H := by
 show (scal (.int i) (.int j) = true ∧ Q (.bl (if false = true then _ else decide (V.int i = V.int j))) H) = _
 rw [if_neg Bool.false_ne_true]
 exact rEq_int
theorem rNeA_int {i j : Int} : rEqA K true (.int i) (.int j) H Q = Q (.bl (!decide (i = j))) H := by
 show (scal (.int i) (.int j) = true ∧ Q (.bl (if true = true then !decide (V.int i = V.int j) else _)) H) = _
 rw [if_pos rfl]
 exact rNe_int
theorem rEqA_str {i j : Str} : rEqA K false (.str i) (.str j) H Q = Q (.bl (decide (i = j))) H := by
 show (scal (.str i) (.str j) = true ∧ Q (.bl (if false = true then _ else decide (V.str i = V.str j))) H) = _
 rw [if_neg Bool.false_ne_true]
 exact rEq_str
theorem rNeA_str {i j : Str} : rEqA K true (.str i) (.str j) H Q = Q (.bl (!decide (i = j))) H := by
 show (scal (.str i) (.str j) = true ∧ Q (.bl (if true = true then !decide (V.str i = V.str j) else _)) H) = _
 rw [if_pos rfl]
 exact rNe_str
theorem rEqA_bl {i j : Bool} : rEqA K false (.bl i) (.bl j) H Q = Q (.bl (decide (i = j))) H := by
 show (scal (.bl i) (.bl j) = true ∧ Q (.bl (if false = true then _ else decide (V.bl i = V.bl j))) H) = _
 rw [if_neg Bool.false_ne_true]
 exact rEq_bl
theorem rNeA_bl {i j : Bool} : rEqA K true (.bl i) (.bl j) H Q = Q (.bl (!decide (i = j))) H := by
 show (scal (.bl i) (.bl j) = true ∧ Q (.bl (if true = true then !decide (V.bl i = V.bl j) else _)) H) = _
 rw [if_pos rfl]
 exact rNe_bl
end
end L2
set_option maxRecDepth 100000
namespace L2
open PySem PySem.Spec PyProof.Rows
noncomputable def csOk (osc scope : Scope) (ON N : List Str) (nv : Nat) (ix : List Nat) : Bool :=
 scope.kind == .function && scope.names.all (fun y => y.2 != .cell && (y.2 != .local || scope.names.lookup y.1 == some .local) && (y.2 != .free || (osc.names.lookup y.1 == some .cell || osc.names.lookup y.1 == some .free))) &&
  N.length == nv + ix.length && (List.range ix.length).all fun j => match N[nv + j]?, ix[j]? with
   | some y, some i => ON[i]? == some y && (osc.names.lookup y == some .cell || osc.names.lookup y == some .free) && scope.names.lookup y == some .free
   | _, _ => false
theorem cs_of {X : Cx} {scope : Scope} {N : List Str} {nv : Nat} {ix : List Nat} (h : csOk X.env.scope scope X.N N nv ix = true) : CScope X scope N nv ix := by
 unfold csOk at h
 simp only [Bool.and_eq_true, beq_iff_eq, List.all_eq_true, List.mem_range, Bool.or_eq_true, bne_iff_ne, ne_eq] at h
 obtain ⟨⟨⟨h1, h2⟩, h3⟩, h4⟩ := h
 refine ⟨h1, fun y hy => (h2 y hy).1.1, fun y hy hl => ?_, fun y hy hf => ?_, h3, fun j y e => ?_⟩
 ·rcases (h2 y hy).1.2 with z | z
  ·exact absurd hl z
  ·exact z
 ·rcases (h2 y hy).2 with z | z
  ·exact absurd hf z
  ·exact z
 ·have hj : j < ix.length := by
   have := (List.getElem?_eq_some_iff.mp e).1
   omega
  have q := h4 j hj
  rw [e, List.getElem?_eq_getElem hj] at q
  simp only [Bool.and_eq_true, beq_iff_eq, Bool.or_eq_true] at q
  exact ⟨ix[j], List.getElem?_eq_getElem hj, q.1.1, q.1.2, q.2⟩
noncomputable def TupAt (K : PySem.W.Frag) (mg : Str → Option Value) (x : Str) (vs : List V) : Prop :=
 ∃ (a : Addr) (o : Obj) (its : Array Value) (n : Nat), mg x = some (.ref a) ∧ K.lookup a = some o ∧ o.cls = .type "tuple" ∧ o.dict = none ∧ o.data = .seq its n ∧ its.size ≤ sizeLine ∧ Vals vs its.toList
noncomputable def tTC (K : PySem.W.Frag) (vs : List V) : TE := fun _ H Q => ∀ a, (∀ H, SqT K H a vs) → (∀ H, tyV K "tuple" (.ref a) H) → Q (.ref a) H
theorem pe_tcst {X : Cx} {x : Str} {vs : List V} {pos : Pos} (hg : Gl X x) (h : TupAt X.K X.mg x vs) (hd : (x == ("__debug__" : Str)) = false := by decide) : PE X (.Name x pos) (tTC X.K vs) := by
 obtain ⟨a, o, its, n, hm, hk, hc, hdi, hda, hz, r⟩ := h
 intro pins s σ H Q I q
 exact ld_glob I hg hm ⟨.ref a, H, I, rfl, q a (fun H => .inr ⟨o, its, n, hk, hc, hda, hz, r⟩) (fun H => .inr (.inl ⟨rfl, o, hk, hc, hdi⟩))⟩ hd
theorem all_range_bools (bs : List Bool) : (List.range bs.length).all (fun i => bs.getD i false) = bs.all id := by
 rw [Bool.eq_iff_iff, List.all_eq_true, List.all_eq_true]
 constructor
 ·intro h b hb
  obtain ⟨i, hi, rfl⟩ := List.getElem_of_mem hb
  have := h i (List.mem_range.mpr hi)
  simpa [List.getD, hi] using this
 ·intro h i hi
  have hi' := List.mem_range.mp hi
  have := h bs[i] (List.getElem_mem hi')
  simpa [List.getD, hi'] using this
section
variable {X : Cx}
noncomputable def rAll (K : PySem.W.Frag) (any : Bool) : List V → Hp → VK → Prop := fun xs H Q => match xs with
 | [.ref p] => ∃ bs : List Bool, SqL K H p (bs.map V.bl) ∧ Q (.bl (if any then bs.any id else bs.all id)) H
 | _ => False
theorem truth_bools {prog : Program} {w : World} {A : Around} {bs : List Bool} {its : List Value} (r : Vals (bs.map V.bl) its) : TruthOf prog w A (fun i v => its.toArray[i]? = some v) (fun i => bs.getD i false) := by
 intro i v s Q E hP hQ
 have hP' : its[i]? = some v := by simpa using hP
 have hi : i < bs.length := by
  have := (List.getElem?_eq_some_iff.mp hP').1
  have l := r.length
  rw [List.length_map] at l
  omega
 obtain ⟨u, hu, ru⟩ := r.get (i := i) (x := .bl bs[i]) (by rw [List.getElem?_map, List.getElem?_eq_getElem hi]; rfl)
 rw [hP'] at hu
 cases hu
 cases ru
 have e : bs.getD i false = bs[i] := by simp [List.getD, hi]
 replace hQ : Q (bs.getD i false) s := hQ
 rw [e] at hQ
 exact wpAny_truthy_bool hQ
theorem call_all (hc : X.calm = true) : CallR X (.builtin "all") (rAll X.K false) := by
 intro pins s σ H xs us Q I rs q
 unfold rAll at q
 split at q
 ·rename_i p
  obtain ⟨u, rfl, ru⟩ := vals1 rs
  cases ru
  obtain ⟨bs, hS, q⟩ := q
  obtain ⟨its, r, pl, hz⟩ := I.list hS
  have hlt : p < s.heap.objs.size := by obtain ⟨o, e, _⟩ := pl.isList; exact Heap.lt_size e
  have hlen := r.length
  rw [List.length_map] at hlen
  refine call_all_walk (wpAny_pyIter_list pl.isList ⟨s.heap.objs.size, _, _, _, _, _, _, rfl, Walks.list (A := X.A.in1) (I.ok.hd hc) s.heap.objs.size p (Nat.ne_of_lt hlt) its.toArray, ⟨⟨_, Heap.get?_push_size _ rfl, rfl, rfl⟩, pl.isList.push _⟩, truth_bools r, fun h' tk hk => ?_⟩)
  refine ⟨.bl _, H, I.kept (h' := h') (t' := tk) fun b o e => hk b o (fun z => lt_ne e (Nat.le_refl _) (List.mem_singleton.mp z)) (Heap.get?_push_of_some _ e), ?_, q⟩
  rw [List.size_toArray, ← hlen, all_range_bools]
  rfl
 ·exact q.elim
noncomputable def rSum (K : PySem.W.Frag) : List V → Hp → VK → Prop := fun xs H Q => match xs with
 | [.ref p] => ∃ ns : List Int, SqL K H p (ns.map V.int) ∧ Q (.int ns.sum) H
 | _ => False
theorem rAll_ref {K : PySem.W.Frag} {p : Addr} {H : Hp} {Q : VK} : rAll K false [.ref p] H Q = (∃ bs : List Bool, SqL K H p (bs.map V.bl) ∧ Q (.bl (bs.all id)) H) := rfl
theorem rAny_ref {K : PySem.W.Frag} {p : Addr} {H : Hp} {Q : VK} : rAll K true [.ref p] H Q = (∃ bs : List Bool, SqL K H p (bs.map V.bl) ∧ Q (.bl (bs.any id)) H) := rfl
theorem rSum_ref {K : PySem.W.Frag} {p : Addr} {H : Hp} {Q : VK} : rSum K [.ref p] H Q = (∃ ns : List Int, SqL K H p (ns.map V.int) ∧ Q (.int ns.sum) H) := rfl
noncomputable def rListA (K : PySem.W.Frag) : List V → Hp → VK → Prop := fun xs H Q => match xs with
 | [.ref p] => ∃ ys, (SqL K H p ys ∨ SqT K H p ys) ∧ ∀ l, H l = none → Q (.ref l) (upd H l (.lst ys))
 | _ => False
noncomputable def rTupleA (K : PySem.W.Frag) : List V → Hp → VK → Prop := fun xs H Q => match xs with
 | [.ref p] => ∃ ys, (SqL K H p ys ∧ ∀ l, H l = none → Q (.ref l) (upd H l (.tup ys))) ∨ (SqT K H p ys ∧ Q (.ref p) H)
 | _ => False
theorem call_tupleA : CallR X (.type "tuple") (rTupleA X.K) := CallR.imp call_tuple_of fun xs H Q h => by
 unfold rTupleA at h
 split at h
 ·obtain ⟨ys, h⟩ := h
  exact ⟨_, ys, rfl, h⟩
 ·exact h.elim
theorem rListA_ref {K : PySem.W.Frag} {p : Addr} {H : Hp} {Q : VK} : rListA K [.ref p] H Q = (∃ ys, (SqL K H p ys ∨ SqT K H p ys) ∧ ∀ l, H l = none → Q (.ref l) (upd H l (.lst ys))) := rfl
theorem rTupleA_ref {K : PySem.W.Frag} {p : Addr} {H : Hp} {Q : VK} : rTupleA K [.ref p] H Q = (∃ ys, (SqL K H p ys ∧ ∀ l, H l = none → Q (.ref l) (upd H l (.tup ys))) ∨ (SqT K H p ys ∧ Q (.ref p) H)) := rfl
noncomputable def rDivmodA : List V → Hp → VK → Prop := fun xs H Q => match xs with
 | [.int i, .int j] => CDiv i j ∧ ∀ p, H p = none → Q (.ref p) (upd H p (.tup [.int (i / j), .int (i % j)]))
 | _ => False
theorem rDivmodA_int {i j : Int} {H : Hp} {Q : VK} : rDivmodA [.int i, .int j] H Q = (CDiv i j ∧ ∀ p, H p = none → Q (.ref p) (upd H p (.tup [.int (i / j), .int (i % j)]))) := rfl
noncomputable def rAppendA : V → List V → Hp → VK → Prop := fun x vs H Q => match x, vs with
 | .ref l, [y] => ∃ xs, H l = some (.lst xs) ∧ xs.length < sizeLine ∧ Q .non (upd H l (.lst (xs ++ [y])))
 | _, _ => False
theorem mt_appendA : MtR X "list.append" rAppendA := by
 intro pins s σ H x xs v us Q I rx rs q
 unfold rAppendA at q
 split at q
 ·obtain ⟨ys, h1, h2, h3⟩ := q
  exact mt_append pins s σ H _ _ v us Q I rx rs ⟨_, ys, _, rfl, rfl, h1, h2, h3⟩
 ·exact q.elim
theorem pe_append {o e : Expr} {to te : TE} {apos cpos : Pos} (ho : PE X o to) (he : PE X e te) (hbase : attributeBase o "append" X.env (eval o X.env) = eval o X.env := by rfl)
  (hfew : ((backTo cpos (starEach [e] X.env)).all (fun x => !x.1) && (backToKw cpos (keywordEach [] X.env)).all (fun x => x.1.isSome)
   && decide ([e].length + ([] : List Keyword).length + (if ([] : List Keyword).isEmpty then 0 else 1) < 30)) = true := by rfl)
  (hline : (apos.endLine == cpos.line) = true := by rfl) (hs : starEach [e] X.env = (false, eval e X.env) :: starEach [] X.env := by rfl) (hplain : (backTo cpos (starEach [] X.env)).any (·.1) = false := by rfl) :
  PE X (.Call (.Attribute o "append" apos) [e] [] cpos) (tBM X.K "list" rAppendA to (tCons te tNil)) :=
 pe_bm F.plainAttrs_list F.slot_list_append F.type_list_append mt_appendA ho (pa_cons he pa_nil hs) hbase hfew hline hs hplain
theorem tyV_list {K : PySem.W.Frag} {a : Addr} {xs : List V} {H : Hp} (h : SqL K H a xs) : tyV K "list" (.ref a) H := .inl ⟨rfl, xs, h⟩
theorem rAppendA_ref {l : Addr} {y : V} {H : Hp} {Q : VK} : rAppendA (.ref l) [y] H Q = (∃ xs, H l = some (.lst xs) ∧ xs.length < sizeLine ∧ Q .non (upd H l (.lst (xs ++ [y])))) := rfl
noncomputable def rSetA : V → V → V → Hp → (Hp → Prop) → Prop := fun o i v H Q => match o, i with
 | .ref p, .int k => ∃ xs j, H p = some (.lst xs) ∧ ixN xs.length k = some j ∧ Q (upd H p (.lst (xs.set j v)))
 | _, _ => False
theorem set_A : PSet X rSetA := by
 intro pins s σ H o i v ov iv u Q I ro ri rv q
 unfold rSetA at q
 split at q
 ·obtain ⟨xs, j, h1, h2, h3⟩ := q
  exact set_list pins s σ H _ _ v ov iv u Q I ro ri rv ⟨_, xs, _, j, rfl, rfl, h1, h2, h3⟩
 ·exact q.elim
theorem rSetA_ref {p : Addr} {k : Int} {v : V} {H : Hp} {Q : Hp → Prop} : rSetA (.ref p) (.int k) v H Q = (∃ xs j, H p = some (.lst xs) ∧ ixN xs.length k = some j ∧ Q (upd H p (.lst (xs.set j v)))) := rfl
noncomputable def rIxA (K : PySem.W.Frag) : R2 := fun x y H Q => match x, y with
 | .ref p, .int i => ∃ xs v, (SqL K H p xs ∨ SqT K H p xs) ∧ atI xs i = some v ∧ Q v H
 | .str z, .int i => ∃ c, z.length ≤ sizeLine ∧ atI z.cps.toList i = some c ∧ Q (.str ⟨#[c]⟩) H
 | _, _ => False
theorem IxR.imp {r r' : R2} (h : IxR X r) (i : ∀ x y H Q, r' x y H Q → r x y H Q) : IxR X r' := fun value slice pins s σ H x y v u Q I rx ry q hs => h value slice pins s σ H x y v u Q I rx ry (i _ _ _ _ q) hs
theorem ix_A : IxR X (rIxA X.K) := IxR.imp ix_seq fun x y H Q h => by
 unfold rIxA at h
 split at h
 ·obtain ⟨xs, v, h1, h2, h3⟩ := h
  rcases h1 with h1 | h1
  ·exact .inl ⟨_, xs, _, v, rfl, rfl, h1, h2, h3⟩
  ·exact .inr (.inl ⟨_, xs, _, v, rfl, rfl, h1, h2, h3⟩)
 ·obtain ⟨c, h1, h2, h3⟩ := h
  exact .inr (.inr ⟨_, _, c, rfl, rfl, h1, h2, h3⟩)
 ·exact h.elim
theorem rIxA_str {K : PySem.W.Frag} {z : Str} {i : Int} {H : Hp} {Q : VK} : rIxA K (.str z) (.int i) H Q = (∃ c, z.length ≤ sizeLine ∧ atI z.cps.toList i = some c ∧ Q (.str ⟨#[c]⟩) H) := rfl
theorem ixA_list {K : PySem.W.Frag} {p : Addr} {i : Int} {H : Hp} {Q : VK} {xs : List V} {v : V} (h : SqL K H p xs) (e : atI xs i = some v) (q : Q v H) : rIxA K (.ref p) (.int i) H Q := ⟨xs, v, .inl h, e, q⟩
theorem ixA_tup {K : PySem.W.Frag} {p : Addr} {i : Int} {H : Hp} {Q : VK} {xs : List V} {v : V} (h : SqT K H p xs) (e : atI xs i = some v) (q : Q v H) : rIxA K (.ref p) (.int i) H Q := ⟨xs, v, .inr h, e, q⟩
theorem ixA_ints {K : PySem.W.Frag} {H : Hp} {a : Addr} {ns : List Int} {k : Int} {Q : VK} (hS : SqL K H a (ns.map V.int)) (h0 : 0 ≤ k) (h1 : k < (ns.length : Int)) (q : Q (.int (ns.getD k.toNat 0)) H) : rIxA K (.ref a) (.int k) H Q := by
 refine ixA_list hS ?_ q
 obtain ⟨j, rfl⟩ : ∃ j : Nat, k = (j : Int) := ⟨k.toNat, by omega⟩
 refine atI_nat ?_
 have hj : j < ns.length := by omega
 rw [List.getElem?_map, List.getElem?_eq_getElem hj]
 simp [List.getD, hj]
end
section
variable {K : PySem.W.Frag} {H : Hp} {σ : St}
theorem gTup_ref {n : Nat} {t : TGs} {a : Addr} {Q : St → Hp → Prop} : gTup K n t (.ref a) σ H Q = (∃ xs, SqT K H a xs ∧ xs.length = n ∧ t xs σ H Q) := by
 apply propext
 constructor
 ·rintro ⟨b, xs, e, h⟩
  cases e
  exact ⟨xs, h⟩
 ·rintro ⟨xs, h⟩
  exact ⟨a, xs, rfl, h⟩
theorem gCons_cons {t : TG} {u : TGs} {v : V} {r : List V} {Q : St → Hp → Prop} : gCons t u (v :: r) σ H Q = t v σ H fun σ' H' => u r σ' H' Q := by
 apply propext
 constructor
 ·rintro ⟨v', r', e, h⟩
  cases e
  exact h
 ·intro h
  exact ⟨v, r, rfl, h⟩
theorem gNil_nil {Q : St → Hp → Prop} : gNil [] σ H Q = Q σ H := by
 apply propext
 exact ⟨fun h => h.2, fun h => ⟨rfl, h⟩⟩
theorem ex_int {i : Int} {P : Int → Prop} : (∃ k, V.int i = .int k ∧ P k) = P i := by
 apply propext
 constructor
 ·rintro ⟨k, e, q⟩
  cases e; exact q
 ·intro q; exact ⟨i, rfl, q⟩
theorem small_line {n : Nat} (h : n ≤ 1000) : (n ≤ sizeLine) = True := by
 have := sizeLine_eq
 simp only [eq_iff_iff, iff_true]
 omega
theorem small_lt {n : Nat} (h : n ≤ 1000) : (n < sizeLine) = True := by
 have := sizeLine_eq
 simp only [eq_iff_iff, iff_true]
 omega
end
end L2
set_option maxRecDepth 100000
namespace L2
open PySem PySem.Spec PyProof.Rows
section
variable {X : Cx} (K : PySem.W.Frag) (h : X.K = K)
theorem op_addK (h : X.K = K) : OpR X (binaryOp .Add) (rAddA K) := h ▸ op_addA
theorem call_lenK (h : X.K = K) : CallR X (.builtin "len") (rLenA K) := h ▸ call_lenA
theorem call_isiK (h : X.K = K) : CallR X (.builtin "isinstance") (rIsi K) := h ▸ call_isi
theorem op_inK (h : X.K = K) : OpR X (compareOp .In) (rInA K false) := h ▸ op_inA
theorem sl_K (h : X.K = K) : SlR X (rSlA K) := h ▸ sl_A
theorem ix_K (h : X.K = K) : IxR X (rIxA K) := h ▸ ix_A
theorem pi_seqK {tg l : Expr} {tl : TE} (h : X.K = K) (hl : PE X l tl) : PI X tg l (iSeq K tl) := h ▸ pi_seq hl
theorem call_allK (h : X.K = K) (hc : X.calm = true) : CallR X (.builtin "all") (rAll K false) := h ▸ call_all hc
theorem call_tupleK (h : X.K = K) : CallR X (.type "tuple") (rTupleA K) := h ▸ call_tupleA
theorem pe_tcstK {x : Str} {vs : List V} {pos : Pos} (h : X.K = K) (hg : Gl X x) (ht : TupAt K X.mg x vs) (hd : (x == ("__debug__" : Str)) = false := by decide) : PE X (.Name x pos) (tTC K vs) := by
 subst h
 exact pe_tcst hg ht hd
theorem pe_appendK {o e : Expr} {to te : TE} {apos cpos : Pos} (h : X.K = K) (ho : PE X o to) (he : PE X e te) (hbase : attributeBase o "append" X.env (eval o X.env) = eval o X.env := by rfl)
  (hfew : ((backTo cpos (starEach [e] X.env)).all (fun x => !x.1) && (backToKw cpos (keywordEach [] X.env)).all (fun x => x.1.isSome)
   && decide ([e].length + ([] : List Keyword).length + (if ([] : List Keyword).isEmpty then 0 else 1) < 30)) = true := by rfl)
  (hline : (apos.endLine == cpos.line) = true := by rfl) (hs : starEach [e] X.env = (false, eval e X.env) :: starEach [] X.env := by rfl) (hplain : (backTo cpos (starEach [] X.env)).any (·.1) = false := by rfl) :
  PE X (.Call (.Attribute o "append" apos) [e] [] cpos) (tBM K "list" rAppendA to (tCons te tNil)) := h ▸ pe_append ho he hbase hfew hline hs hplain
end
noncomputable def tMid (t u : TS) : TS := fun D σ H => ∃ M : St → Hp → Prop, t { D with nx := M } σ H ∧ ∀ σ' H', M σ' H' → u D σ' H'
theorem pss_mid {X : Cx} {st : Stmt} {rest : List Stmt} {t u : TS} (h1 : PS X st t) (h2 : PSs X rest u) : PSs X (st :: rest) (tMid t u) := by
 intro pins s σ H D I ⟨M, h, k⟩
 refine wpAny_execs_cons (thn (h1 pins s σ H { D with nx := M } I h) fun f s1 q => ?_)
 cases f with
 | next =>
  obtain ⟨σ', H', I', q⟩ := q
  exact h2 pins s1 σ' H' D I' (k σ' H' q)
 | ret v => exact q
 | brk => exact q
 | cont => exact q
end L2
set_option maxRecDepth 100000
namespace L2
open PySem PySem.Spec PyProof.Rows
noncomputable def isStar : Expr → Bool
 | .Starred .. => true
 | _ => false
theorem starEach_of {e : Expr} {es : List Expr} {env : Env} (h : isStar e = false) : starEach (e :: es) env = (false, eval e env) :: starEach es env := by
 cases e <;> first | rfl | exact absurd h (by simp [isStar])
theorem noStars {pos : Pos} {env : Env} : ∀ {es : List Expr}, es.any isStar = false → (backTo pos (starEach es env)).any (·.1) = false
 | [], _ => rfl
 | e :: es, h => by
  rw [List.any_cons, Bool.or_eq_false_iff] at h
  rw [starEach_of h.1]
  show (false || (backTo pos (starEach es env)).any (·.1)) = false
  rw [noStars h.2]
  rfl
theorem assignEach_of {e : Expr} {es : List Expr} {env : Env} (h : isStar e = false) : (assignEach (e :: es) env).map (·.2) = assign e env :: (assignEach es env).map (·.2) := by
 cases e <;> first | rfl | exact absurd h (by simp [isStar])
noncomputable def plainTest : Expr → Bool
 | .UnaryOp .Not _ _ => false
 | .BoolOp .. => false
 | .IfExp .. => false
 | .Compare .. => false
 | _ => true
theorem isTrue_of {e : Expr} {env : Env} (h : plainTest e = true) (whole : Sem Value) : isTrue e env whole = (do let v ← whole; standAt e.pos; holding [v] (truthy v)) := by
 cases e with
 | UnaryOp op a p => cases op <;> first | rfl | exact absurd h (by simp [plainTest])
 | BoolOp => exact absurd h (by simp [plainTest])
 | IfExp => exact absurd h (by simp [plainTest])
 | Compare => exact absurd h (by simp [plainTest])
 | _ => rfl
section
variable {X : Cx} {CX : CXT} {k n : Nat} {ps : List Str} {sp : Sp} {x : Str} {p pos : Pos} {e : Expr} {es : List Expr} {t : TA} {te : TE} {id T : String} {r : List V → Hp → VK → Prop}
theorem pa_q (ha : PE X e te) (hr : PA X es t) (h : isStar e = false := by rfl) : PA X (e :: es) (tCons te t) := pa_cons ha hr (starEach_of h)
theorem pe_fnQ [Quiet CX] (G : FnAt X.prog X.w X.K X.mg X.base CX x k ps sp) (hr : Room n X.A) (hk : k ≤ n) (hg : Gl X x) (ha : PA X (e :: es) t)
  (hdb : (x == ("__debug__" : Str)) = false := by decide) (h : (e :: es).any isStar = false := by rfl) : PE X (.Call (.Name x p) (e :: es) [] pos) (tCall sp [] E0 t) := by
 rw [List.any_cons, Bool.or_eq_false_iff] at h
 exact pe_fn G hr hk hg ha hdb (starEach_of h.1) (noStars h.2)
theorem pe_callBQ (hc : CallR X (.builtin id) r) (hg : Gl X x) (hm : X.mg x = none) (hv : bootBuiltins x = some (.builtin id)) (ha : PA X (e :: es) t) (hn : x ≠ "__name__" := by decide) (hdb : (x == ("__debug__" : Str)) = false := by decide)
  (h : (e :: es).any isStar = false := by rfl) : PE X (.Call (.Name x p) (e :: es) [] pos) (tCB r t) := by
 rw [List.any_cons, Bool.or_eq_false_iff] at h
 exact pe_callB hc hg hm hv ha hn hdb (starEach_of h.1) (noStars h.2)
theorem pe_callTyQ (hc : CallR X (.type T) r) (hg : Gl X x) (hm : X.mg x = none) (hv : bootBuiltins x = some (.type T)) (ha : PA X (e :: es) t) (hn : x ≠ "__name__" := by decide) (hdb : (x == ("__debug__" : Str)) = false := by decide)
  (h : (e :: es).any isStar = false := by rfl) : PE X (.Call (.Name x p) (e :: es) [] pos) (tCB r t) := by
 rw [List.any_cons, Bool.or_eq_false_iff] at h
 exact pe_callTy hc hg hm hv ha hn hdb (starEach_of h.1) (noStars h.2)
theorem pt_q (he : PE X e te) (h : plainTest e = true := by rfl) : PT X e (tB te) := pt_val he (isTrue_of h)
end
end L2
namespace L2
open PySem PySem.Spec PyProof.Rows
noncomputable def isSl : Expr → Bool
 | .Slice .. => true
 | _ => false
noncomputable def isComp : Expr → Bool
 | .ListComp .. => true
 | .SetComp .. => true
 | .DictComp .. => true
 | _ => false
noncomputable def isTup : Expr → Bool
 | .Tuple .. => true
 | _ => false
noncomputable def isSetE : Expr → Bool
 | .Set .. => true
 | _ => false
theorem swaps_of {e : Expr} {tg : Option Expr} {l : Nat} {env : Env} (h : isComp e = false) : swapsWith e tg l env = pure false := by
 cases e <;> first | rfl | exact absurd h (by simp [isComp])
theorem stores_of {tg e : Expr} {env : Env} (h : isTup e = false) : swappedStores [tg] e env = pure none := by
 cases e with
 | Tuple => simp [isTup] at h
 | _ => cases tg <;> rfl
theorem nomarkQ {op : CmpOp} {b : Expr} (h : isSetE b = false) : behindInMarks op b = false := by
 cases b <;> first | rfl | exact absurd h (by simp [isSetE])
section
variable {X : Cx} {pos : Pos}
theorem pg_subQ {o i : Expr} {to ti : TE} {t : TSet} (ho : PE X o to) (hi : PE X i ti) (hs : PSet X t) (h : isSl i = false := by rfl) : PG X (.Subscript o i pos) (gSub to ti t) :=
 pg_sub ho hi hs fun v => by
  rw [arm_assign_Subscript]
  cases i <;> first | rfl | exact absurd h (by simp [isSl])
theorem ps_asgQ {tg e : Expr} {te : TE} {g : TG} (he : PE X e te) (hg : PG X tg g) (h1 : isComp e = false := by rfl) (h2 : isTup e = false := by rfl) (h3 : isStar tg = false := by rfl) : PS X (.Assign [tg] e pos) (tAsg te g) :=
 ps_asg he hg (swaps_of h1) (stores_of h2) (assignEach_of h3)
theorem ps_setQ {i : Nat} {x : Str} {e : Expr} {te : TE} {pos' : Pos} (hN : X.N.Nodup) (hi : X.N[i]? = some x) (hx : Loc X.env.scope x) (he : PE X e te) (h : isComp e = false := by rfl) (hf : X.fn x = true ∨ X.env.scope.names.lookup x = some .local := by first | exact .inl rfl | exact .inr rfl | assumption) :
  PS X (.Assign [.Name x pos'] e pos) (tAsg te (gName i)) := ps_set hN hi hx he (swaps_of h) hf
theorem ps_exprQ {e : Expr} {te : TE} (he : PE X e te) (h : isComp e = false := by rfl) : PS X (.Expr e pos) (tDrop te) := ps_expr he (swaps_of h)
end
end L2
namespace L2
open PySem PySem.Spec PyProof.Rows
noncomputable def tCs (vs : List V) : TA := fun _ H Q => Q vs H
end L2
namespace L2
open PySem PySem.Spec PyProof.Rows
theorem tupat_mk {K : PySem.W.Frag} {h : Heap} {mg : Str → Option Value} {x : Str} {vs : List V} {b : Addr} {o : Obj} {its : Array Value} {n : Nat} (X : K.In h) (G : h.Ns mainGlobals mg)
  (a : PySem.W.nsIn K mainGlobals x = some (some (.ref b))) (l : K.lookup b = some o) (c : o.cls = .type "tuple") (d : o.dict = none) (e : o.data = .seq its n) (z : its.size ≤ sizeLine) (r : Vals vs its.toList) : TupAt K mg x vs :=
 ⟨b, o, its, n, PySem.W.mg_of X G a, l, c, d, e, z, r⟩
end L2
namespace BitM
end BitM
namespace Rem
end Rem
namespace BitI
open PySem L2
end BitI
namespace RemM
open Rem
end RemM
namespace Held
end Held
namespace Com
open PySem L2
theorem same_upd {H : Hp} {p : Addr} {o : HO} (h : H p = none) : Same H (upd H p o) := fun b u e => by rw [upd_ne (ne_of_none e h)]; exact e
theorem same_lst {K : PySem.W.Frag} {H H' : Hp} {a : Addr} {xs : List V} (e : Same H H') (h : SqL K H a xs) : SqL K H' a xs := e.seq h
theorem same_tup {K : PySem.W.Frag} {H H' : Hp} {a : Addr} {xs : List V} (e : Same H H') (h : SqT K H a xs) : SqT K H' a xs := by
 rcases h with (h | ⟨o, h⟩) | h
 ·exact .inl (.inl (e _ _ h))
 ·exact .inl (.inr ⟨o, e _ _ h⟩)
 ·exact .inr h
theorem cut_ints {ns : List Int} {lo hi : Option Int} : cutV (ns.map V.int) lo hi = ((ns.drop (HT.sIx ns.length 0 lo)).take (HT.sIx ns.length ns.length hi - HT.sIx ns.length 0 lo)).map V.int := by
 unfold cutV
 rw [List.length_map, List.map_take, List.map_drop]
theorem upd_old {H : Hp} {p q : Addr} {o x : HO} (h : H p = some x) (hn : H q = none) : upd H q o p = some x := by rw [upd_ne (ne_of_none h hn)]; exact h
theorem addA_lists {K : PySem.W.Frag} {H : Hp} {Q : VK} {l b : Addr} {xs zs : List V} (h1 : H l = some (.lst xs)) (h2 : H b = some (.lst zs)) (hz : xs.length + zs.length ≤ sizeLine) (q : ∀ p, H p = none → Q (.ref p) (upd H p (.lst (xs ++ zs)))) : rAddA K (.ref l) (.ref b) H Q :=
 .inl ⟨l, b, xs, zs, rfl, rfl, h1, h2, hz, q⟩
theorem map_int_get {ns : List Int} {i : Nat} {x : V} (h : (ns.map V.int)[i]? = some x) : ∃ c, x = .int c ∧ ns[i]? = some c := by
 rw [List.getElem?_map] at h
 cases e : ns[i]? with
 | none => rw [e] at h; cases h
 | some c => rw [e] at h; cases h; exact ⟨c, rfl, rfl⟩
theorem small_ok {n : Nat} (h : n ≤ 1000) : n ≤ sizeLine := by rw [sizeLine_eq]; omega
theorem isi_list {K : PySem.W.Frag} {H : Hp} {a : Addr} {xs : List V} {Q : VK} (h : H a = some (.lst xs)) (q : Q (.bl true) H) : rIsi K [.ref a, .ty "list"] H Q := ⟨_, true, .lst h, kit_ll K, q⟩
theorem isi_tup {K : PySem.W.Frag} {H : Hp} {a : Addr} {xs : List V} {Q : VK} (h : H a = some (.tup xs)) (q : Q (.bl true) H) : rIsi K [.ref a, .ty "tuple"] H Q := ⟨_, true, .tup h, kit_tt K, q⟩
theorem fresh_ne {H : Hp} {p q : Addr} {o : HO} (h : upd H p o q = none) : q ≠ p := fun e => by
 subst e
 rw [upd_same] at h
 cases h
theorem cut_le {ns : List Int} {lo hi : Option Int} : ∃ ms : List Int, cutV (ns.map V.int) lo hi = ms.map V.int ∧ ms.length ≤ ns.length := by
 refine ⟨_, cut_ints, ?_⟩
 rw [List.length_take, List.length_drop]
 omega
end Com
set_option maxRecDepth 100000
namespace L2
open PySem PySem.Spec PyProof.Rows
structure KlsAt (K : PySem.W.Frag) (mg : Str → Option Value) (x : Str) (C : Addr) : Prop where
 mgC : mg x = some (.ref C)
 cl : Cls K C
 mks : PySem.W.makesIn K C = true
 kp : PySem.W.keepIn K (.ref C) = true
noncomputable def MethAt (K : PySem.W.Frag) (C : Addr) (m q : Str) (st : Stmt) : Prop := ∃ f fd, Fun K m q st f fd ∧ Meth K C m f
noncomputable def MtAt (P : Program) (w : World) (K : PySem.W.Frag) (mg : Str → Option Value) (base : Heap) (CX : CXT) (C : Addr) (m : Str) (k : Nat) (ps : List Str) (sp : Sp) : Prop :=
 ∃ f fd, FnOk P w K mg base CX k f fd ps sp ∧ Meth K C m f ∧ Binds K fd ps []
theorem klsat_mk {K : PySem.W.Frag} {h : Heap} {mg : Str → Option Value} {x : Str} {C : Addr} (X : K.In h) (G : h.Ns mainGlobals mg) (a : PySem.W.nsIn K mainGlobals x = some (some (.ref C)))
  (pg : PySem.W.plainGet K C Str.empty = true) (hd : PySem.W.hasDictIn K C = true) (po : PySem.W.plainOver K C = true) (sa : PySem.W.findIn K (.ref C) "__setattr__" = some (some (.builtin "object.__setattr__"))) (mk : PySem.W.makesIn K C = true) (kc : PySem.W.keepIn K (.ref C) = true) : KlsAt K mg x C :=
 ⟨PySem.W.mg_of X G a, ⟨pg, hd, po, sa⟩, mk, kc⟩
theorem methat_mk {K : PySem.W.Frag} {C : Addr} {m q : Str} {st : Stmt} {f : Addr} {oc : Value} {od an : Option Addr} {osl : Array (Option Value)} {kV doc pm cdv ct : Value}
  (a : PySem.W.findIn K (.ref C) m = some (some (.ref f))) (i : PySem.W.isFn K (.ref f) = true)
  (l : K.lookup f = some ⟨oc, od, .func (PySem.W.fnOf m q (defArgs st) (defBody st) (defScope st) .none kV doc pm an cdv ct), osl⟩) (c : PySem.W.codeIn K cdv q = true) (k : PySem.W.keepIn K (.ref f) = true) : MethAt K C m q st :=
 ⟨f, _, fun_mk l c k, ⟨a, i, k⟩⟩
section
variable {P : Program} {w : World} {K : PySem.W.Frag} {mg : Str → Option Value} {base : Heap} {CX : CXT}
theorem MethAt.fn {C : Addr} {m q : Str} {st : Stmt} {N ps : List Str} {k : Nat} {sp : Sp} (F : MethAt K C m q st) (S : FnScope N ps (defScope st))
  (hb : ∀ (kV doc pm : Value) (an : Option Addr) (cdv ct : Value) (us : List Value), us.length = ps.length → bindArgs (PySem.W.fnOf m q (defArgs st) (defBody st) (defScope st) .none kV doc pm an cdv ct) ⟨us, []⟩ = pure (ps.zip us))
  (len : ∀ vs H Q E, sp vs H Q E → vs.length = ps.length)
  (hbody : ∀ (f : Addr) (cdv : Value) (A : Around) (outer : List Env) (s : Shared) (H : Hp) (vs : List V) (Q : VK) (E : XK), Room k (A.deeper (envOfC q (defScope st) s.heap.objs.size f cdv)) → sp vs H Q E →
   ∃ t, PSs (cxOf CX P w K mg base N q (defScope st) f cdv A outer s H E).nox (defBody st) t ∧ t { nx := fun _ H' => Q .non H', rt := Q } (start N vs) H) : MtAt P w K mg base CX C m (k + 1) ps sp := by
 obtain ⟨f, fd, F, hm⟩ := F
 have bd := F.binds hb
 obtain ⟨oc, od, kV, doc, pm, an, cdv, ct, osl, rfl, lk, hcd⟩ := F.ex
 refine ⟨f, _, fn_of lk hcd S len fun A outer s H vs Q E hr hsp => ?_, hm, bd⟩
 obtain ⟨t, h, q⟩ := hbody f cdv A outer s H vs Q E hr hsp
 exact ⟨t, h.nox, q⟩
end
noncomputable def rFld (C : Addr) (f : Str) (x : V) (H : Hp) (Q : VK) : Prop := ∃ a, x = .ref a ∧ ∃ dx fs, H a = some (.ins C dx fs) ∧ ∃ v, fs.lookup f = some v ∧ Q v H
noncomputable def tFldC (C : Addr) (f : Str) (ta : TE) : TE := fun σ H Q => ta σ H fun x H1 => rFld C f x H1 Q
noncomputable def rSetF (C : Addr) (f : Str) (y x : V) (H : Hp) (N : Hp → Prop) : Prop := ∃ a, x = .ref a ∧ ∃ dx fs, H a = some (.ins C dx fs) ∧ fs.length < 1000 ∧ N (upd H a (.ins C dx (putF f y fs)))
noncomputable def sFldC (C : Addr) (f : Str) (ta tv : TE) : TS := fun D σ H => tv σ H fun y H1 => ta σ H1 fun x H2 => rSetF C f y x H2 (D.nx σ)
noncomputable def rAugF (C : Addr) (f : Str) (x : V) (H : Hp) (K : V → (V → Hp → Prop) → Prop) (N : Hp → Prop) : Prop := ∃ a, x = .ref a ∧ ∃ dx fs, H a = some (.ins C dx fs) ∧ ∃ v, fs.lookup f = some v ∧
 K v fun z H3 => ∃ dx' fs', H3 a = some (.ins C dx' fs') ∧ fs'.length < 1000 ∧ N (upd H3 a (.ins C dx' (putF f z fs')))
noncomputable def sAugC (C : Addr) (f : Str) (ta tv : TE) (rd : R2) : TS := fun D σ H => ta σ H fun x H1 => rAugF C f x H1 (fun v R => tv σ H1 fun y H2 => rd v y H2 R) (D.nx σ)
noncomputable def rMt (C : Addr) (m : Str) (x : V) (H : Hp) (N : Prop) : Prop := ∃ a, x = .ref a ∧ ∃ dx fs, H a = some (.ins C dx fs) ∧ fs.lookup m = none ∧ N
noncomputable def tMtC (C : Addr) (m : Str) (sp : Sp) (ta : TE) (t : TA) : TE := fun σ H Q => ta σ H fun x H1 => rMt C m x H1 (t σ H1 fun vs H2 => sp (x :: vs) H2 Q E0)
theorem rFld_ref {C a : Addr} {f : Str} {H : Hp} {Q : VK} : rFld C f (.ref a) H Q = ∃ dx fs, H a = some (.ins C dx fs) ∧ ∃ v, fs.lookup f = some v ∧ Q v H := by
 apply propext; unfold rFld; constructor
 ·rintro ⟨b, e, h⟩; cases e; exact h
 ·exact fun h => ⟨a, rfl, h⟩
theorem rSetF_ref {C a : Addr} {f : Str} {y : V} {H : Hp} {N : Hp → Prop} : rSetF C f y (.ref a) H N = ∃ dx fs, H a = some (.ins C dx fs) ∧ fs.length < 1000 ∧ N (upd H a (.ins C dx (putF f y fs))) := by
 apply propext; unfold rSetF; constructor
 ·rintro ⟨b, e, h⟩; cases e; exact h
 ·exact fun h => ⟨a, rfl, h⟩
theorem rAugF_ref {C a : Addr} {f : Str} {H : Hp} {K : V → (V → Hp → Prop) → Prop} {N : Hp → Prop} : rAugF C f (.ref a) H K N = ∃ dx fs, H a = some (.ins C dx fs) ∧ ∃ v, fs.lookup f = some v ∧
  K v fun z H3 => ∃ dx' fs', H3 a = some (.ins C dx' fs') ∧ fs'.length < 1000 ∧ N (upd H3 a (.ins C dx' (putF f z fs'))) := by
 apply propext; unfold rAugF; constructor
 ·rintro ⟨b, e, h⟩; cases e; exact h
 ·exact fun h => ⟨a, rfl, h⟩
theorem rMt_ref {C a : Addr} {m : Str} {H : Hp} {N : Prop} : rMt C m (.ref a) H N = ∃ dx fs, H a = some (.ins C dx fs) ∧ fs.lookup m = none ∧ N := by
 apply propext; unfold rMt; constructor
 ·rintro ⟨b, e, h⟩; cases e; exact h
 ·exact fun h => ⟨a, rfl, h⟩
theorem ex_ins {C d : Addr} {l : List (Str × V)} {N : Addr → List (Str × V) → Prop} : (∃ dx fs, some (HO.ins C d l) = some (HO.ins C dx fs) ∧ N dx fs) = N d l := by
 apply propext; constructor
 ·rintro ⟨dx, fs, e, h⟩; cases e; exact h
 ·exact fun h => ⟨d, l, rfl, h⟩
theorem ex_som {x : V} {N : V → Prop} : (∃ v, some x = some v ∧ N v) = N x := by
 apply propext; constructor
 ·rintro ⟨v, e, h⟩; cases e; exact h
 ·exact fun h => ⟨x, rfl, h⟩
theorem noattr_mk {K : PySem.W.Frag} {C : Addr} {f : Str} (h : PySem.W.findIn K (.ref C) f = some none) : NoAttr K C f := h
theorem same_new {H : Hp} {x dx C : Addr} {fs : List (Str × V)} (nx : H x = none) (nd : H dx = none) : Same H (upd (upd H dx (.own x)) x (.ins C dx fs)) := fun b o e => by
 rw [upd_ne (ne_of_none e nx), upd_ne (ne_of_none e nd)]; exact e
section
variable {X : Cx} {C : Addr} {o e value : Expr} {es : List Expr} {f m x : Str} {p pos pos' tpos apos : Pos} {ta tv : TE} {t : TA} {k n : Nat} {ps : List Str} {sp : Sp}
theorem pe_fldC (he : PE X e ta) (c : KlsAt X.K X.mg x C) (nn : NoAttr X.K C f) (hb : attributeBase e f X.env (eval e X.env) = eval e X.env) : PE X (.Attribute e f pos) (tFldC C f ta) := by
 intro pins s σ H Q I h
 refine attr_of hb (thn (he pins s σ H _ I h) fun u s1 ⟨x, H1, I1, rx, a, ex, dx, fs, ea, v, l, q⟩ => ?_)
 subst ex
 obtain rfl : u = Value.ref a := rx
 exact getattr_ok I1 ea c.cl nn l fun u' s2 I2 ru => ⟨v, H1, I2, ru, q⟩
theorem ps_fldC (ha : PE X o ta) (hv : PE X value tv) (c : KlsAt X.K X.mg x C) (nn : NoAttr X.K C f) (hs : isComp value = false := by rfl) : PS X (.Assign [.Attribute o f pos'] value pos) (sFldC C f ta tv) := by
 intro pins s σ H D I h
 refine plainObj_wpAny_Assign_Attribute (thn (hv pins s σ H _ I h) fun u s1 ⟨y, H1, I1, ry, q⟩ => thn (ha pins s1 σ H1 _ I1 q) fun ov s2 ⟨x, H2, I2, rx, a, ex, dx, fs, ea, l, q2⟩ => ?_) (swaps_of hs)
 subst ex
 obtain rfl : ov = Value.ref a := rx
 exact setattr_ok I2 ea c.cl nn l ry fun s3 I3 => ⟨σ, _, I3, q2⟩
theorem pe_mtC {CX : CXT} [Quiet CX] {pl : Sem Bool} (he : PE X o ta) (c : KlsAt X.K X.mg x C) (G : MtAt X.prog X.w X.K X.mg X.base CX C m k ps sp) (hr : Room n X.A) (hk : k ≤ n) (ha : PA X (e :: es) t) (hst : (e :: es).any isStar = false := by rfl)
  (ht : eval (.Call (.Attribute o m apos) (e :: es) [] pos) X.env = (do
   let ov ← eval o X.env
   standAt apos.atName
   let (f, first) ← holding [ov] (getMethod ov m pl)
   callWith pos f first (backTo pos (starEach (e :: es) X.env)) (backToKw pos (keywordEach [] X.env))) := by rfl) :
  PE X (.Call (.Attribute o m apos) (e :: es) [] pos) (tMtC C m sp ta t) := by
 obtain ⟨f, fd, F, hm, b⟩ := G
 rw [List.any_cons, Bool.or_eq_false_iff] at hst
 intro pins s σ H Q I h
 refine PySem.W.methodCall_KW (pl := pl) (thn (he pins s σ H _ I h) fun u s1 ⟨x, H1, I1, rx, a, ex, dx, fs, ea, l, q⟩ => ?_) ht
 subst ex
 obtain rfl : u = Value.ref a := rx
 refine getmeth_ok I1 ea c.cl hm l ?_
 refine PySem.W.callWith_K (first := [.ref a]) (h₀ := X.base) I.ok.mod.kin hm.kp (thn (ha pos pins s1 σ H1 _ I1 q) fun us s2 ⟨vs, H2, I2, r, q2⟩ => ⟨I2.kIn, ?_⟩) (starEach_of hst.1) (noStars hst.2)
 exact run_fn (us := .ref a :: us) (vs := .ref a :: vs) F (hr.mono hk) b .nil (Quiet.pass X) I2 (.cons rfl r) (by rw [List.append_nil]; exact q2)
theorem pe_mtC0 {CX : CXT} [Quiet CX] {pl : Sem Bool} (he : PE X o ta) (c : KlsAt X.K X.mg x C) (G : MtAt X.prog X.w X.K X.mg X.base CX C m k ps sp) (hr : Room n X.A) (hk : k ≤ n)
  (ht : eval (.Call (.Attribute o m apos) [] [] pos) X.env = (do
   let ov ← eval o X.env
   standAt apos.atName
   let (f, first) ← holding [ov] (getMethod ov m pl)
   callWith pos f first (backTo pos (starEach [] X.env)) (backToKw pos (keywordEach [] X.env))) := by rfl) :
  PE X (.Call (.Attribute o m apos) [] [] pos) (tMtC C m sp ta tNil) := by
 obtain ⟨f, fd, F, hm, b⟩ := G
 intro pins s σ H Q I h
 refine PySem.W.methodCall_KW (pl := pl) (thn (he pins s σ H _ I h) fun u s1 ⟨x, H1, I1, rx, a, ex, dx, fs, ea, l, q⟩ => ?_) ht
 subst ex
 obtain rfl : u = Value.ref a := rx
 refine getmeth_ok I1 ea c.cl hm l ?_
 exact PySem.W.callWith_K0 (first := [.ref a]) I1.kIn hm.kp (run_fn (us := [.ref a]) (vs := [.ref a]) F (hr.mono hk) b .nil (Quiet.pass X) I1 (.cons rfl .nil) q)
theorem pe_mkC {CX : CXT} [Quiet CX] (c : KlsAt X.K X.mg x C) (G : MtAt X.prog X.w X.K X.mg X.base CX C "__init__" k ps sp) (hr : Room n X.A) (hk : k + 1 ≤ n) (hg : Gl X x) (ha : PA X (e :: es) t)
  (hdb : (x == ("__debug__" : Str)) = false := by decide) (h : (e :: es).any isStar = false := by rfl) : PE X (.Call (.Name x p) (e :: es) [] pos) (tMake C sp [] E0 t) := by
 obtain ⟨f, fd, F, hm, b⟩ := G
 rw [List.any_cons, Bool.or_eq_false_iff] at h
 exact pe_make ⟨c.mks, hm.at_, hm.fn, c.kp⟩ F (hr.mono hk) hg c.mgC b .nil (Quiet.pass X) ha hdb (starEach_of h.1) (noStars h.2)
end
end L2
set_option maxRecDepth 100000
namespace L2
open PySem PySem.Spec PyProof.Rows
noncomputable def ixO (K : PySem.W.Frag) (p : Addr) (i : Int) (H : Hp) (Q : VK) : Option HO → Prop
 | some (.lst xs) => ∃ v, atI xs i = some v ∧ Q v H
 | some (.tup xs) => ∃ v, atI xs i = some v ∧ Q v H
 | _ => rIxA K (.ref p) (.int i) H Q
noncomputable def rIxB (K : PySem.W.Frag) : R2 := fun x y H Q => match x, y with
 | .ref p, .int i => ixO K p i H Q (H p)
 | x, y => rIxA K x y H Q
theorem rIxB_ref {K : PySem.W.Frag} {p : Addr} {i : Int} {H : Hp} {Q : VK} : rIxB K (.ref p) (.int i) H Q = ixO K p i H Q (H p) := rfl
theorem rIxB_str {K : PySem.W.Frag} {z : Str} {i : Int} {H : Hp} {Q : VK} : rIxB K (.str z) (.int i) H Q = rIxA K (.str z) (.int i) H Q := rfl
theorem ixO_lst {K : PySem.W.Frag} {p : Addr} {i : Int} {H : Hp} {Q : VK} {xs : List V} : ixO K p i H Q (some (.lst xs)) = ∃ v, atI xs i = some v ∧ Q v H := rfl
theorem ixO_tup {K : PySem.W.Frag} {p : Addr} {i : Int} {H : Hp} {Q : VK} {xs : List V} : ixO K p i H Q (some (.tup xs)) = ∃ v, atI xs i = some v ∧ Q v H := rfl
theorem ixO_imp {K : PySem.W.Frag} {p : Addr} {i : Int} {H : Hp} {Q : VK} (h : ixO K p i H Q (H p)) : rIxA K (.ref p) (.int i) H Q := by
 unfold ixO at h
 split at h
 ·rename_i xs e; obtain ⟨v, a, b⟩ := h; exact ixA_list (SqL.of e) a b
 ·rename_i xs e; obtain ⟨v, a, b⟩ := h; exact ixA_tup (SqT.of e) a b
 ·exact h
theorem ix_B {X : Cx} (K : PySem.W.Frag) (h : X.K = K) : IxR X (rIxB K) := IxR.imp (ix_K K h) fun x y H Q h => by
 unfold rIxB at h
 split at h
 ·exact ixO_imp h
 ·exact h
theorem atI_n {α : Type} {xs : List α} {i : Nat} {x : α} (h : xs[i]? = some x) : atI xs (i : Int) = some x := by
 have hl : i < xs.length := (List.getElem?_eq_some_iff.mp h).1
 unfold atI ixN
 rw [if_pos (by omega), if_pos (by omega)]
 exact h
theorem atI_0 {α : Type} {a : α} {l : List α} : atI (a :: l) 0 = some a := atI_n (i := 0) rfl
theorem atI_1 {α : Type} {a b : α} {l : List α} : atI (a :: b :: l) 1 = some b := atI_n (i := 1) rfl
theorem atI_2 {α : Type} {a b c : α} {l : List α} : atI (a :: b :: c :: l) 2 = some c := atI_n (i := 2) rfl
theorem atI_3 {α : Type} {a b c d : α} {l : List α} : atI (a :: b :: c :: d :: l) 3 = some d := atI_n (i := 3) rfl
theorem atI_4 {α : Type} {a b c d e : α} {l : List α} : atI (a :: b :: c :: d :: e :: l) 4 = some e := atI_n (i := 4) rfl
theorem atI_5 {α : Type} {a b c d e f : α} {l : List α} : atI (a :: b :: c :: d :: e :: f :: l) 5 = some f := atI_n (i := 5) rfl
noncomputable def gO (K : PySem.W.Frag) (n : Nat) (t : TGs) (a : Addr) (σ : St) (H : Hp) (Q : St → Hp → Prop) : Option HO → Prop
 | some (.tup xs) => xs.length = n ∧ t xs σ H Q
 | _ => ∃ xs, SqT K H a xs ∧ xs.length = n ∧ t xs σ H Q
noncomputable def gTupB (K : PySem.W.Frag) (n : Nat) (t : TGs) : TG := fun v σ H Q => match v with
 | .ref a => gO K n t a σ H Q (H a)
 | _ => False
theorem gTupB_ref {K : PySem.W.Frag} {n : Nat} {t : TGs} {a : Addr} {σ : St} {H : Hp} {Q : St → Hp → Prop} : gTupB K n t (.ref a) σ H Q = gO K n t a σ H Q (H a) := rfl
theorem gO_tup {K : PySem.W.Frag} {n : Nat} {t : TGs} {a : Addr} {σ : St} {H : Hp} {Q : St → Hp → Prop} {xs : List V} : gO K n t a σ H Q (some (.tup xs)) = (xs.length = n ∧ t xs σ H Q) := rfl
noncomputable def lenO (K : PySem.W.Frag) (p : Addr) (H : Hp) (Q : VK) : Option HO → Prop
 | some (.lst xs) => Q (.int xs.length) H
 | some (.tup xs) => Q (.int xs.length) H
 | _ => rLenA K [.ref p] H Q
noncomputable def rLenB (K : PySem.W.Frag) : List V → Hp → VK → Prop := fun xs H Q => match xs with
 | [.ref p] => lenO K p H Q (H p)
 | xs => rLenA K xs H Q
theorem rLenB_ref {K : PySem.W.Frag} {p : Addr} {H : Hp} {Q : VK} : rLenB K [.ref p] H Q = lenO K p H Q (H p) := rfl
theorem rLenB_str {K : PySem.W.Frag} {z : Str} {H : Hp} {Q : VK} : rLenB K [.str z] H Q = rLenA K [.str z] H Q := rfl
theorem lenO_lst {K : PySem.W.Frag} {p : Addr} {H : Hp} {Q : VK} {xs : List V} : lenO K p H Q (some (.lst xs)) = Q (.int xs.length) H := rfl
theorem lenO_tup {K : PySem.W.Frag} {p : Addr} {H : Hp} {Q : VK} {xs : List V} : lenO K p H Q (some (.tup xs)) = Q (.int xs.length) H := rfl
theorem call_lenB {X : Cx} (K : PySem.W.Frag) (h : X.K = K) : CallR X (.builtin "len") (rLenB K) := CallR.imp (call_lenK K h) fun xs H Q h => by
 unfold rLenB at h
 split at h
 ·rename_i p
  unfold lenO at h
  split at h
  ·rename_i xs e; exact ⟨xs, .inl (SqL.of e), h⟩
  ·rename_i xs e; exact ⟨xs, .inr (SqT.of e), h⟩
  ·exact h
 ·exact h
noncomputable def isiO (K : PySem.W.Frag) (p : Addr) (n : String) (H : Hp) (Q : VK) : Option HO → Prop
 | some (.lst _) => if n = "list" then Q (.bl true) H else rIsi K [.ref p, .ty n] H Q
 | some (.tup _) => if n = "tuple" then Q (.bl true) H else rIsi K [.ref p, .ty n] H Q
 | _ => rIsi K [.ref p, .ty n] H Q
noncomputable def rIsiB (K : PySem.W.Frag) : List V → Hp → VK → Prop := fun xs H Q => match xs with
 | [.ref p, .ty n] => isiO K p n H Q (H p)
 | xs => rIsi K xs H Q
theorem call_isiB {X : Cx} (K : PySem.W.Frag) (h : X.K = K) : CallR X (.builtin "isinstance") (rIsiB K) := CallR.imp (call_isiK K h) fun xs H Q h => by
 unfold rIsiB at h
 split at h
 ·rename_i p n
  unfold isiO at h
  split at h
  ·rename_i xs e
   split at h
   ·rename_i c; subst c; exact Com.isi_list e h
   ·exact h
  ·rename_i xs e
   split at h
   ·rename_i c; subst c; exact Com.isi_tup e h
   ·exact h
  ·exact h
 ·exact h
theorem rIsiB_ref {K : PySem.W.Frag} {p : Addr} {n : String} {H : Hp} {Q : VK} : rIsiB K [.ref p, .ty n] H Q = isiO K p n H Q (H p) := rfl
theorem isiO_tup {K : PySem.W.Frag} {p : Addr} {H : Hp} {Q : VK} {xs : List V} : isiO K p "tuple" H Q (some (.tup xs)) = Q (.bl true) H := by simp [isiO]
theorem isiO_lst {K : PySem.W.Frag} {p : Addr} {H : Hp} {Q : VK} {xs : List V} : isiO K p "list" H Q (some (.lst xs)) = Q (.bl true) H := by simp [isiO]
theorem rIsiB_i {K : PySem.W.Frag} {i : Int} {n : String} {H : Hp} {Q : VK} : rIsiB K [.int i, .ty n] H Q = rIsi K [.int i, .ty n] H Q := rfl
theorem rIsiB_b {K : PySem.W.Frag} {i : Bool} {n : String} {H : Hp} {Q : VK} : rIsiB K [.bl i, .ty n] H Q = rIsi K [.bl i, .ty n] H Q := rfl
theorem rIsiB_s {K : PySem.W.Frag} {i : Str} {n : String} {H : Hp} {Q : VK} : rIsiB K [.str i, .ty n] H Q = rIsi K [.str i, .ty n] H Q := rfl
theorem ex_lst {l : List V} {N : List V → Prop} : (∃ xs, some (HO.lst l) = some (HO.lst xs) ∧ N xs) = N l := by
 apply propext; constructor
 ·rintro ⟨xs, e, h⟩; cases e; exact h
 ·exact fun h => ⟨l, rfl, h⟩
theorem ex_lst2 {l : List V} {k : Int} {N : List V → Nat → Prop} : (∃ xs j, some (HO.lst l) = some (HO.lst xs) ∧ ixN xs.length k = some j ∧ N xs j) = ∃ j, ixN l.length k = some j ∧ N l j := by
 apply propext; constructor
 ·rintro ⟨xs, j, e, h⟩; cases e; exact ⟨j, h⟩
 ·rintro ⟨j, h⟩; exact ⟨l, j, rfl, h⟩
noncomputable def But (p : Addr) (H H' : Hp) : Prop := ∀ b o, H b = some o → b ≠ p → H' b = some o
theorem But.refl {p : Addr} {H : Hp} : But p H H := fun _ _ h _ => h
theorem But.upd {p : Addr} {H : Hp} {o : HO} : But p H (upd H p o) := fun b x hb hne => by rw [upd_ne hne]; exact hb
theorem But.write {p : Addr} {H H' : Hp} {o : HO} (h : But p H H') : But p H (L2.upd H' p o) := fun b x hb hne => by rw [upd_ne hne]; exact h b x hb hne
end L2
namespace MeterM
noncomputable def mn (a b : Int) : Int := if b < a then b else a
noncomputable def hf (w : Int) : Int := if 1 < w / 2 then w / 2 else 1
noncomputable def k1 (m k : Int) (s : Int × Int) : Int × Int := if s.1 = m then s else if s.1 < k then (s.1 + 1, s.2) else if s.2 + 1 = s.1 then (s.1 + 1, 0) else (s.1, s.2 + 1)
noncomputable def kn (m k : Int) : Nat → Int × Int → Int × Int
 | 0, s => s
 | n + 1, s => k1 m k (kn m k n s)
end MeterM
namespace MeterM
noncomputable def Inb (m : Int) (s : Int × Int) : Prop := 1 ≤ s.1 ∧ s.1 ≤ m ∧ 0 ≤ s.2 ∧ s.2 < s.1
end MeterM
namespace WaysM
noncomputable def lb (x : Nat) : Nat := x - (x &&& (x - 1))
noncomputable def low (t b : Int) : Int × Int := (t / (lb (t.toNat ||| b.toNat) : Nat), b / (lb (t.toNat ||| b.toNat) : Nat))
end WaysM
set_option maxRecDepth 100000
namespace L2
open PySem PySem.Spec PyProof.Rows
noncomputable def Bd (n : Nat) (x : Int) : Prop := x.natAbs < 2 ^ n
end L2
namespace L2
end L2
namespace WaysI
open PySem L2
end WaysI
set_option maxRecDepth 100000
namespace L2
open PySem PySem.Spec PyProof.Rows
noncomputable def swO (i j : Nat) (D : Ends) (σ : St) (H : Hp) : Option HO → Prop
 | some (.tup [a, b]) => D.nx ((σ.set j (some b)).set i (some a)) H
 | _ => False
noncomputable def swV (i j : Nat) (D : Ends) (σ : St) (v : V) (H : Hp) : Prop := match v with
 | .ref p => swO i j D σ H (H p)
 | _ => False
noncomputable def tSw (i j : Nat) (te : TE) : TS := fun D σ H => te σ H fun v H1 => swV i j D σ v H1
theorem swV_ref {i j : Nat} {D : Ends} {σ : St} {p : Addr} {H : Hp} : swV i j D σ (.ref p) H = swO i j D σ H (H p) := rfl
theorem swO_tup {i j : Nat} {D : Ends} {σ : St} {H : Hp} {a b : V} : swO i j D σ H (some (.tup [a, b])) = D.nx ((σ.set j (some b)).set i (some a)) H := rfl
end L2
set_option maxRecDepth 100000
namespace L2
open PySem PySem.Spec PyProof.Rows
theorem ints_are : ∀ {ns : List Int} {its : List Value}, Vals (ns.map V.int) its → IntsAre its ns
 | [], _, .nil => .nil
 | n :: ns, _, .cons r rr => by
  obtain ⟨t, rfl⟩ := r
  exact .cons n t (ints_are rr)
noncomputable def rMinB (K : PySem.W.Frag) : List V → Hp → VK → Prop := fun xs H Q => match xs with
 | [.int i, .int j] => Q (.int (if j < i then j else i)) H
 | [.ref p] => ∃ ns : List Int, SqL K H p (ns.map V.int) ∧ 0 < ns.length ∧ ∀ M, M ∈ ns → (∀ a, a ∈ ns → M ≤ a) → Q (.int M) H
 | _ => False
noncomputable def rMaxB (K : PySem.W.Frag) : List V → Hp → VK → Prop := fun xs H Q => match xs with
 | [.int i, .int j] => Q (.int (if i < j then j else i)) H
 | [.ref p] => ∃ ns : List Int, SqL K H p (ns.map V.int) ∧ 0 < ns.length ∧ ∀ M, M ∈ ns → (∀ a, a ∈ ns → a ≤ M) → Q (.int M) H
 | _ => False
theorem call_maxB {X : Cx} (K : PySem.W.Frag) (hK : X.K = K) (hc : X.calm = true) : CallR X (.builtin "max") (rMaxB K) := by
 subst hK
 intro pins s σ H xs us Q I rs q
 unfold rMaxB at q
 split at q
 ·exact call_maxA hc pins s σ H _ us Q I rs q
 ·rename_i p
  obtain ⟨u, rfl, ru⟩ := vals1 rs
  cases ru
  obtain ⟨ns, hS, hne, q⟩ := q
  obtain ⟨its, r, pl, hz⟩ := I.list hS
  have hi := ints_are r
  have hl := pl.isList
  obtain ⟨xs, e⟩ := hi.allInts.items
  have hns : ns = xs.toList.map (·.1) := by rw [← hi.numsOf, ← nums_intItems, ← e]
  have hsz : 0 < xs.size := by
   have h3 := hne; rw [hns, List.length_map, Array.length_toList] at h3; exact h3
  rw [e] at hl
  refine max_intList (I.ok.hd hc) hl hsz fun v h' tk hv hk => ?_
  obtain ⟨t, rfl⟩ := intItems_at hv
  obtain ⟨h1, h2⟩ := argBest_gt (numAt xs) (xs.size - 1)
  refine ⟨.int _, H, I.kept (t' := tk) hk, ⟨t, rfl⟩, q _ ?_ fun a ha => ?_⟩
  ·rw [hns, numAt_eq]; exact getD_mem (by rw [List.length_map, Array.length_toList]; omega)
  ·rw [hns] at ha
   obtain ⟨j, hj, rfl⟩ := mem_getD ha
   rw [List.length_map, Array.length_toList] at hj
   rw [← numAt_eq]; exact h2 j (by omega)
 ·exact q.elim
theorem rMinB_ref {K : PySem.W.Frag} {p : Addr} {H : Hp} {Q : VK} : rMinB K [.ref p] H Q = ∃ ns : List Int, SqL K H p (ns.map V.int) ∧ 0 < ns.length ∧ ∀ M, M ∈ ns → (∀ a, a ∈ ns → M ≤ a) → Q (.int M) H := rfl
theorem rMaxB_ref {K : PySem.W.Frag} {p : Addr} {H : Hp} {Q : VK} : rMaxB K [.ref p] H Q = ∃ ns : List Int, SqL K H p (ns.map V.int) ∧ 0 < ns.length ∧ ∀ M, M ∈ ns → (∀ a, a ∈ ns → a ≤ M) → Q (.int M) H := rfl
end L2
set_option maxRecDepth 100000
namespace L2
open PySem PySem.Spec PyProof.Rows
noncomputable abbrev ik (i : Int) : Key := Sum.inl i
noncomputable def dinO (neg : Bool) (i : Int) (H : Hp) (Q : VK) : Option HO → Prop
 | some (.dK kvs) => Q (.bl (if neg then !(valV kvs (ik i)).isSome else (valV kvs (ik i)).isSome)) H
 | _ => False
noncomputable def rDIn (neg : Bool) : R2 := fun y x H Q => match y, x with
 | .int i, .ref a => dinO neg i H Q (H a)
 | _, _ => False
theorem rDIn_ref {neg : Bool} {i : Int} {a : Addr} {H : Hp} {Q : VK} : rDIn neg (.int i) (.ref a) H Q = dinO neg i H Q (H a) := rfl
theorem dinO_t {i : Int} {H : Hp} {Q : VK} {kvs : List (Key × V)} : dinO true i H Q (some (.dK kvs)) = Q (.bl (!(valV kvs (ik i)).isSome)) H := rfl
theorem dinO_f {i : Int} {H : Hp} {Q : VK} {kvs : List (Key × V)} : dinO false i H Q (some (.dK kvs)) = Q (.bl (valV kvs (ik i)).isSome) H := rfl
noncomputable def dgO (i : Int) (H : Hp) (Q : VK) : Option HO → Prop
 | some (.dK kvs) => ∃ v, valV kvs (ik i) = some v ∧ Q v H
 | _ => False
noncomputable def rDGet : R2 := fun x y H Q => match x, y with
 | .ref a, .int i => dgO i H Q (H a)
 | _, _ => False
theorem rDGet_ref {i : Int} {a : Addr} {H : Hp} {Q : VK} : rDGet (.ref a) (.int i) H Q = dgO i H Q (H a) := rfl
theorem dgO_k {i : Int} {H : Hp} {Q : VK} {kvs : List (Key × V)} : dgO i H Q (some (.dK kvs)) = ∃ v, valV kvs (ik i) = some v ∧ Q v H := rfl
noncomputable def dpO (a : Addr) (i : Int) (v : V) (H : Hp) (N : Hp → Prop) : Option HO → Prop
 | some (.dK kvs) => kvs.length < sizeLine ∧ N (upd H a (.dK (putK kvs (ik i) v)))
 | _ => False
noncomputable def rDPut (x y v : V) (H : Hp) (N : Hp → Prop) : Prop := match x, y with
 | .ref a, .int i => dpO a i v H N (H a)
 | _, _ => False
noncomputable def sDPutI (to ti tv : TE) : TS := fun D σ H => tv σ H fun v H1 => to σ H1 fun x H2 => ti σ H2 fun y H3 => rDPut x y v H3 (D.nx σ)
theorem rDPut_ref {i : Int} {a : Addr} {v : V} {H : Hp} {N : Hp → Prop} : rDPut (.ref a) (.int i) v H N = dpO a i v H N (H a) := rfl
theorem dpO_k {a : Addr} {i : Int} {v : V} {H : Hp} {N : Hp → Prop} {kvs : List (Key × V)} : dpO a i v H N (some (.dK kvs)) = (kvs.length < sizeLine ∧ N (upd H a (.dK (putK kvs (ik i) v)))) := rfl
noncomputable def isDO : Option HO → Prop
 | some (.dK _) => True
 | _ => False
noncomputable def dopO (a : Addr) (i : Int) (H : Hp) (Q : VK) : Option HO → Prop
 | some (.dK kvs) => ∃ v, valV kvs (ik i) = some v ∧ Q v (upd H a (.dK (dropK kvs (ik i))))
 | _ => False
noncomputable def rDPop (x y : V) (H : Hp) (Q : VK) : Prop := match x, y with
 | .ref a, .int i => dopO a i H Q (H a)
 | _, _ => False
noncomputable def rIsD (x : V) (H : Hp) : Prop := match x with
 | .ref a => isDO (H a)
 | _ => False
noncomputable def tDPopI (to ti : TE) : TE := fun σ H Q => to σ H fun x H1 => rIsD x H1 ∧ ti σ H1 fun y H2 => rDPop x y H2 Q
theorem rIsD_ref {a : Addr} {H : Hp} : rIsD (.ref a) H = isDO (H a) := rfl
theorem isDO_k {kvs : List (Key × V)} : isDO (some (.dK kvs)) = True := rfl
theorem rDPop_ref {i : Int} {a : Addr} {H : Hp} {Q : VK} : rDPop (.ref a) (.int i) H Q = dopO a i H Q (H a) := rfl
theorem dopO_k {a : Addr} {i : Int} {H : Hp} {Q : VK} {kvs : List (Key × V)} : dopO a i H Q (some (.dK kvs)) = ∃ v, valV kvs (ik i) = some v ∧ Q v (upd H a (.dK (dropK kvs (ik i)))) := rfl
section
variable {X : Cx} {i o e value : Expr} {ti to te tv : TE} {pos pos' apos cpos : Pos}
theorem din_split {neg : Bool} {y x : V} {H : Hp} {Q : VK} (q : rDIn neg y x H Q) : ∃ j a kvs, y = .int j ∧ x = .ref a ∧ H a = some (.dK kvs) ∧ Q (.bl (if neg then !(valV kvs (ik j)).isSome else (valV kvs (ik j)).isSome)) H := by
 unfold rDIn at q
 split at q
 ·rename_i j a
  unfold dinO at q
  split at q
  ·rename_i kvs e1; exact ⟨j, a, kvs, rfl, rfl, e1, q⟩
  ·exact q.elim
 ·exact q.elim
theorem pc_dI (hu : X.A.units + 64 < cLine) (hi : PE X i ti) (ho : PE X o to) : PC X .In i o (tOp (rDIn false) ti to) := by
 intro pins s σ H Q I h
 have hu' : X.A.units + 1 < cLine := by omega
 refine thn (hi pins s σ H _ I h) fun iv s1 ⟨y, H1, I1, ry, q1⟩ => thn (ho pins s1 σ H1 _ I1 q1) fun u s2 ⟨x, H2, I2, rx, q2⟩ => ?_
 obtain ⟨j, a, kvs, rfl, rfl, e1, q⟩ := din_split q2
 obtain rfl : u = Value.ref a := rx
 exact d_in hu' I2 (DGet.k (k := ik j) e1) ry fun s' I' => ⟨.bl _, H2, I', rfl, q⟩
end
end L2
set_option maxRecDepth 100000
namespace L2
open PySem PySem.Spec PyProof.Rows
noncomputable def lenD (K : PySem.W.Frag) (p : Addr) (H : Hp) (Q : VK) : Option HO → Prop
 | some (.dK kvs) => Q (.int kvs.length) H
 | _ => rLenB K [.ref p] H Q
noncomputable def rLenC (K : PySem.W.Frag) : List V → Hp → VK → Prop := fun xs H Q => match xs with
 | [.ref p] => lenD K p H Q (H p)
 | xs => rLenB K xs H Q
theorem rLenC_ref {K : PySem.W.Frag} {p : Addr} {H : Hp} {Q : VK} : rLenC K [.ref p] H Q = lenD K p H Q (H p) := rfl
theorem lenD_k {K : PySem.W.Frag} {p : Addr} {H : Hp} {Q : VK} {kvs : List (Key × V)} : lenD K p H Q (some (.dK kvs)) = Q (.int kvs.length) H := rfl
end L2
set_option maxRecDepth 100000
namespace L2
open PySem PySem.Spec PyProof.Rows
noncomputable def rRngV (vs : List V) (H : Hp) (Q : VK) : Prop := match vs with
 | [.int i, .int j] => (-(2 ^ 62) ≤ i ∧ i < 2 ^ 62 ∧ -(2 ^ 62) ≤ j ∧ j < 2 ^ 62) ∧ ∀ p, H p = none → Q (.ref p) (upd H p (.rng i j))
 | _ => False
noncomputable def tRngV (ta : TA) : TE := fun σ H Q => ta σ H fun vs H1 => rRngV vs H1 Q
theorem rRngV_int {i j : Int} {H : Hp} {Q : VK} : rRngV [.int i, .int j] H Q = ((-(2 ^ 62) ≤ i ∧ i < 2 ^ 62 ∧ -(2 ^ 62) ≤ j ∧ j < 2 ^ 62) ∧ ∀ p, H p = none → Q (.ref p) (upd H p (.rng i j))) := rfl
noncomputable def listO (K : PySem.W.Frag) (p : Addr) (H : Hp) (Q : VK) : Option HO → Prop
 | some (.rng i j) => (-(2 ^ 62) ≤ i ∧ i < 2 ^ 62 ∧ -(2 ^ 62) ≤ j ∧ j < 2 ^ 62) ∧ (j - i).toNat ≤ 1000000 ∧ ∀ l, H l = none → Q (.ref l) (upd H l (.lst (rngV i (j - i).toNat)))
 | _ => rListA K [.ref p] H Q
noncomputable def rListB (K : PySem.W.Frag) : List V → Hp → VK → Prop := fun xs H Q => match xs with
 | [.ref p] => listO K p H Q (H p)
 | xs => rListA K xs H Q
theorem rListB_ref {K : PySem.W.Frag} {p : Addr} {H : Hp} {Q : VK} : rListB K [.ref p] H Q = listO K p H Q (H p) := rfl
theorem listO_rng {K : PySem.W.Frag} {p : Addr} {H : Hp} {Q : VK} {i j : Int} : listO K p H Q (some (.rng i j)) = ((-(2 ^ 62) ≤ i ∧ i < 2 ^ 62 ∧ -(2 ^ 62) ≤ j ∧ j < 2 ^ 62) ∧ (j - i).toNat ≤ 1000000 ∧ ∀ l, H l = none → Q (.ref l) (upd H l (.lst (rngV i (j - i).toNat)))) := rfl
end L2
set_option maxRecDepth 100000
namespace L2
open PySem PySem.Spec PyProof.Rows
noncomputable def tRev (K : PySem.W.Frag) (te : TE) : TE := fun σ H Q => te σ H fun x H1 => ∃ a xs, x = .ref a ∧ SqL K H1 a xs ∧ ∀ (ys : List V) (p : Addr), (∀ v ∈ ys, v ∈ xs) → ys.length ≤ xs.length → H1 p = none → Q (.ref p) (upd H1 p (.lst ys))
section
variable {X : Cx} {K : PySem.W.Frag}
end
end L2
set_option maxRecDepth 100000
namespace L2
open PySem PySem.Spec PyProof.Rows
noncomputable def tChain3 (r r' r'' : R2) (ta tb tc td : TE) : TE := fun σ H Q => ta σ H fun x H1 => tb σ H1 fun y H2 => r x y H2 fun z H3 => ∃ k, z = .bl k ∧
 (if k = true then tc σ H3 fun w' H4 => r' y w' H4 fun z2 H5 => ∃ k2, z2 = .bl k2 ∧ (if k2 = true then td σ H5 fun w2 H6 => r'' w' w2 H6 Q else Q (.bl false) H5) else Q (.bl false) H3)
section
variable {X : Cx} {a b c d : Expr} {ta tb tc td : TE} {pos : Pos}
end
end L2
set_option maxRecDepth 100000
namespace L2
open PySem PySem.Spec PyProof.Rows
noncomputable abbrev sk (s : Str) : Key := Sum.inr s
noncomputable def sgO (z : Str) (H : Hp) (Q : VK) : Option HO → Prop
 | some (.dK kvs) => ∃ v, valV kvs (sk z) = some v ∧ Q v H
 | _ => False
noncomputable def rSGet : R2 := fun x y H Q => match x, y with
 | .ref a, .str z => sgO z H Q (H a)
 | _, _ => False
theorem rSGet_ref {z : Str} {a : Addr} {H : Hp} {Q : VK} : rSGet (.ref a) (.str z) H Q = sgO z H Q (H a) := rfl
theorem sgO_k {z : Str} {H : Hp} {Q : VK} {kvs : List (Key × V)} : sgO z H Q (some (.dK kvs)) = ∃ v, valV kvs (sk z) = some v ∧ Q v H := rfl
noncomputable def spO (a : Addr) (z : Str) (v : V) (H : Hp) (N : Hp → Prop) : Option HO → Prop
 | some (.dK kvs) => kvs.length < sizeLine ∧ N (upd H a (.dK (putK kvs (sk z) v)))
 | _ => False
noncomputable def rSPut (x y v : V) (H : Hp) (N : Hp → Prop) : Prop := match x, y with
 | .ref a, .str z => spO a z v H N (H a)
 | _, _ => False
noncomputable def sDPutS (to ti tv : TE) : TS := fun D σ H => tv σ H fun v H1 => to σ H1 fun x H2 => ti σ H2 fun y H3 => rSPut x y v H3 (D.nx σ)
theorem rSPut_ref {z : Str} {a : Addr} {v : V} {H : Hp} {N : Hp → Prop} : rSPut (.ref a) (.str z) v H N = spO a z v H N (H a) := rfl
theorem spO_k {a : Addr} {z : Str} {v : V} {H : Hp} {N : Hp → Prop} {kvs : List (Key × V)} : spO a z v H N (some (.dK kvs)) = (kvs.length < sizeLine ∧ N (upd H a (.dK (putK kvs (sk z) v)))) := rfl
section
variable {X : Cx} {i o e value : Expr} {ti to te tv : TE} {pos pos' apos cpos : Pos}
end
end L2
set_option maxRecDepth 100000
namespace L2
open PySem PySem.Spec PyProof.Rows
noncomputable def Ite (a : Addr) : It :=
 ⟨fun i H => ∃ xs x, H a = some (.lst xs) ∧ xs[i]? = some x, fun i H v H' => ∃ p x, (∀ xs, H a = some (.lst xs) → xs[i]? = some x) ∧ H p = none ∧ v = .ref p ∧ H' = upd H p (.tup [.int i, x]), fun i H => ∃ xs, H a = some (.lst xs) ∧ xs.length ≤ i⟩
section
variable {X : Cx} {pins : List (Addr × Obj)} {σ : St} {H : Hp} {s : Shared} {h' : Heap}
end
noncomputable def enR (x : V) (H1 : Hp) (R : It → Hp → Prop) : Prop := match x with
 | .ref a => ∃ xs, H1 a = some (.lst xs) ∧ R (Ite a) H1
 | _ => False
noncomputable def jEnum (ta : TA) : TI := fun σ H R => ta σ H fun vs H1 => match vs with
 | [x] => enR x H1 R
 | _ => False
section
variable {X : Cx} {elts : List Expr} {x1 : _} {tpos : Pos}
end
section
variable {K : PySem.W.Frag} {g : TG} {tb : TS} {D : Ends} {σ : St} {H : Hp} {ta : TA}
theorem tFor_enum : tFor (jEnum ta) g tb D σ H = ta σ H fun vs H1 => match vs with
 | [x] => enR x H1 fun J H2 => forR J g tb D σ H2
 | _ => False := by
 unfold tFor jEnum
 rfl
end
end L2
set_option maxRecDepth 100000
namespace L2
open PySem PySem.Spec PyProof.Rows
noncomputable def dodO (a : Addr) (i : Int) (z : V) (H : Hp) (Q : VK) : Option HO → Prop
 | some (.dK kvs) => (∀ v, valV kvs (ik i) = some v → Q v (upd H a (.dK (dropK kvs (ik i))))) ∧ (valV kvs (ik i) = none → Q z H)
 | _ => False
noncomputable def rDPopD (x y z : V) (H : Hp) (Q : VK) : Prop := match x, y with
 | .ref a, .int i => dodO a i z H Q (H a)
 | _, _ => False
noncomputable def tDPopD (to ti tz : TE) : TE := fun σ H Q => to σ H fun x H1 => rIsD x H1 ∧ ti σ H1 fun y H2 => tz σ H2 fun z H3 => rDPopD x y z H3 Q
theorem rDPopD_ref {i : Int} {a : Addr} {z : V} {H : Hp} {Q : VK} : rDPopD (.ref a) (.int i) z H Q = dodO a i z H Q (H a) := rfl
theorem dodO_k {a : Addr} {i : Int} {z : V} {H : Hp} {Q : VK} {kvs : List (Key × V)} : dodO a i z H Q (some (.dK kvs)) = ((∀ v, valV kvs (ik i) = some v → Q v (upd H a (.dK (dropK kvs (ik i))))) ∧ (valV kvs (ik i) = none → Q z H)) := rfl
section
variable {X : Cx} {o e f : Expr} {to te tf : TE} {apos cpos : Pos}
end
section
variable {X : Cx} {pos : Pos}
structure QE (X : Cx) (e : Expr) (t : TE) : Prop where
 h : PE X e t
structure QS (X : Cx) (st : Stmt) (t : TS) : Prop where
 h : PS X st t
structure QSs (X : Cx) (l : List Stmt) (t : TS) : Prop where
 h : PSs X l t
theorem qss_one {st : Stmt} {t : TS} (h1 : QS X st t) : QSs X [st] t := ⟨pss_one h1.h⟩
theorem qss_cons {st : Stmt} {rest : List Stmt} {t u : TS} (h1 : QS X st t) (h2 : QSs X rest u) : QSs X (st :: rest) (tSeq t u) := ⟨pss_cons h1.h h2.h⟩
theorem qss_mid {st : Stmt} {rest : List Stmt} {t u : TS} (h1 : QS X st t) (h2 : QSs X rest u) : QSs X (st :: rest) (tMid t u) := ⟨pss_mid h1.h h2.h⟩
theorem qs_setQ {i : Nat} {x : Str} {e : Expr} {te : TE} {pos' : Pos} (hN : X.N.Nodup) (hi : X.N[i]? = some x) (hx : Loc X.env.scope x) (he : QE X e te) (h : isComp e = false := by rfl) (hf : X.fn x = true ∨ X.env.scope.names.lookup x = some .local := by first | exact .inl rfl | exact .inr rfl | assumption) :
  QS X (.Assign [.Name x pos'] e pos) (tAsg te (gName i)) := ⟨ps_setQ hN hi hx he.h h hf⟩
end
end L2
set_option maxRecDepth 100000
namespace L2
open PySem PySem.Spec PyProof.Rows
section
variable {X : Cx} {elts : List Expr} {x1 : _} {tpos : Pos}
end
section
variable {nv : Nat} {ix : List Nat} {g : TG} {tt : TT} {te : TE} {tb : TS} {D : Ends} {σ : St} {H : Hp} {ta : TA} {Q : VK}
end
section
variable {K : PySem.W.Frag} {g : TG} {tt : TT} {te : TE} {H : Hp} {σ : St} {Q : List V → Hp → Prop}
theorem co_any {J : It} {n : Nat} (Pv : Nat → List V → St → Hp → Prop) (h0 : Pv 0 [] σ H) (hz : n ≤ sizeLine) (hl : ∀ i ys σ H, Pv i ys σ H → ys.length ≤ i) (go : ∀ i ys σ H, i < n → Pv i ys σ H → J.go i H) (stop : ∀ ys σ H, Pv n ys σ H → J.stop n H)
  (step : ∀ i ys σ H x H'', i < n → Pv i ys σ H → J.yld i H x H'' → g x σ H'' fun σ2 H2 => tt σ2 H2 fun b H3 => if b = true then te σ2 H3 fun y H4 => Pv (i + 1) (ys ++ [y]) σ2 H4 else Pv (i + 1) ys σ2 H3) (q : ∀ ys σ H, Pv n ys σ H → Q ys H) : compR J g tt te σ H Q := by
 refine ⟨fun i m ys σ' H' => i ≤ n ∧ m = n - i ∧ Pv i ys σ' H', ⟨n, Nat.zero_le _, rfl, h0⟩, ?_⟩
 rintro i m ys σ' H' ⟨hi, rfl, hp⟩
 by_cases e : i = n
 ·subst e
  exact .inl ⟨stop _ _ _ hp, q _ _ _ hp⟩
 ·have hlt : i < n := by omega
  refine .inr ⟨go i _ _ _ hlt hp, by have := hl _ _ _ _ hp; omega, fun ys' σ'' H'' => Pv (i + 1) ys' σ'' H'', fun ys' σ'' H'' p' => ⟨n - (i + 1), by omega, by omega, rfl, p'⟩, fun x H'' y => step i ys σ' H' x H'' hlt hp y⟩
end
end L2
set_option maxRecDepth 100000
namespace L2
open PySem PySem.Spec PyProof.Rows
noncomputable def ExO (h : Heap) (e : Addr) (cls : Value) (dx tb : Option Addr) : Prop :=
 ∃ oe vs, h.get? e = some oe ∧ oe.cls = cls ∧ oe.dict = dx ∧ oe.data = .fields vs ∧ 1 < vs.size ∧ (match tb with
  | none => vs[1]? = some .none
  | some T => vs[1]? = some (.ref T) ∧ T ≠ e ∧ ∃ oT ts, h.get? T = some oT ∧ oT.data = .fields ts ∧ ts[3]? = some .none)
structure Lft (S : List Addr) (e : Addr) (tb : Option Addr) (h h' : Heap) : Prop where
 keep : ∀ b o, b ∉ S → b ≠ e → (∀ T, tb = some T → b ≠ T) → h.get? b = some o → h'.get? b = some o
 slot : ∀ b o, b ∈ S → h.get? b = some o → ∃ sl, h'.get? b = some { o with slots := sl }
 there : ∀ b o, h.get? b = some o → ∃ o', h'.get? b = some o'
section
variable {M : Model} {A : Around} {E : Value → Shared → Prop} {s : Shared}
theorem dict_mapFields (f : Array Value → Array Value) (o : Obj) : (Obj.mapFields f o).dict = o.dict := by
 unfold Obj.mapFields
 split <;> rfl
noncomputable abbrev rowO (top : Value) (L : Addr) (ps : List Value) : Obj := { cls := .type "traceback", dict := none, data := .fields ([top, .ref L, .none, rawInt L, .none] ++ (if ps.isEmpty then List.replicate 6 Value.none else ps)).toArray }
theorem entry_x {base : Heap} {env : Env} {outer : List Env} {L e : Addr} {oe : Obj} {vs : Array Value} {top : Value} {had : Bool} {Q : Unit → Shared → Prop}
  (hfr : A.frames = some (env :: outer)) (hl : s.heap.FunFrames base (env :: outer)) (hf : env.frame = some L)
  (he : s.heap.get? e = some oe) (hd : oe.data = .fields vs) (hsz : 1 < vs.size)
  (h : ∀ h', ExO h' e oe.cls oe.dict (some s.heap.objs.size) → Lft ((env :: outer).filterMap (·.frame)) e none s.heap h' → Q () { s with heap := h' }) :
  wpAny M A (do let a ← frameOf env; let pl ← entryPlaceOf L had; let b ← EntryCells.newEntry top a .none (rawInt L) .none pl; setField (.ref e) 1 b) (fun _ s' => wpAny M A (setFlight (.ref e) none) Q E s') E s := by
 have out : e ∉ (env :: outer).filterMap (·.frame) := fun hm => by
  obtain ⟨_, o', ho', no⟩ := hl.mem hm
  cases he.symm.trans ho'
  exact no vs hd
 refine wpAny_bind (wpAny_frameOf_fun hfr hl hf fun k ks => wpAny_bind (wpAny_entryPlaceOf fun ps hps => ?_))
 unfold EntryCells.newEntry newFields
 refine wpAny_bind (wpAny_newObj_type ?_ (hps.sizeOk5 _ _ _ _ _))
 have ke : k.get? e = some oe := (ks.2.1 e out).trans he
 have far : k.objs.size ≠ e := Nat.ne_of_gt (Heap.lt_size ke)
 have esz : k.objs.size = s.heap.objs.size := ks.1
 have de := Obj.data_mapFields hd (·.setIfInBounds 1 (Value.ref k.objs.size))
 have e1 := Heap.get?_push_of_some (h := k) (rowO top L ps) ke
 have e2 := Heap.get?_update_self (Obj.mapFields (·.setIfInBounds 1 (Value.ref k.objs.size))) e1 (Obj.isFreed_of_fields de)
 have r2 := (Heap.get?_update_other (k.push (rowO top L ps)) (Obj.mapFields (·.setIfInBounds 1 (Value.ref k.objs.size))) (Ne.symm far)).trans (Heap.get?_push_size k rfl)
 refine wpAny_setField e1 hd hsz ?_
 unfold setFlight
 refine wpAny_bind (wpAny_field e2 de (x := .ref k.objs.size) (by simp [hsz]) ?_)
 rw [if_pos (by simp)]
 have r3 := Heap.get?_update_self (Obj.mapFields (·.setIfInBounds 3 ((none : Option Addr).elim Value.none fun f => rawInt f))) r2 (Obj.isFreed_of_fields (Obj.data_mapFields rfl _))
 refine wpAny_setField r2 rfl (by simp only [List.size_toArray, List.length_append, List.length_cons, List.length_nil] <;> omega) (h _ ?_ ?_)
 ·rw [← esz]
  refine ⟨_, _, ?_, Obj.cls_mapFields _ _, dict_mapFields _ _, de, by simp [hsz], by simp [hsz], far, _, _, r3, Obj.data_mapFields rfl _, ?_⟩
  ·rw [Heap.get?_update_other _ _ far]; exact e2
  ·first | (simp; done) | (rcases hps with rfl | ⟨_, _, _, _, _, _, _, rfl⟩ <;> simp)
 ·have keep : ∀ b o, b ≠ e → k.get? b = some o → (((k.push (rowO top L ps)).update e (Obj.mapFields (·.setIfInBounds 1 (Value.ref k.objs.size)))).update k.objs.size (Obj.mapFields (·.setIfInBounds 3 ((none : Option Addr).elim Value.none fun f => rawInt f)))).get? b = some o := fun b o ne hb => by
   rw [Heap.get?_update_other _ _ (Nat.ne_of_gt (Heap.lt_size hb)), Heap.get?_update_other _ _ (Ne.symm ne)]
   exact Heap.get?_push_of_some _ hb
  refine ⟨fun b o hS ne _ hb => keep b o ne ((ks.2.1 b hS).trans hb), fun b o hS hb => ?_, fun b o hb => ?_⟩
  ·obtain ⟨sl, q⟩ := ks.2.2 b o hb
   exact ⟨sl, keep b _ (fun z => out (z ▸ hS)) q⟩
  ·by_cases z : b = e
   ·subst z
    rw [Heap.get?_update_other _ _ far]
    exact ⟨_, e2⟩
   ·obtain ⟨sl, q⟩ := ks.2.2 b o hb
    exact ⟨_, keep b _ z q⟩
theorem note_x {base : Heap} {env : Env} {outer : List Env} {L e : Addr} {cls : Value} {dx tb : Option Addr} {Q : Unit → Shared → Prop}
  (hfr : A.frames = some (env :: outer)) (hl : s.heap.FunFrames base (env :: outer)) (hf : env.frame = some L) (hx : ExO s.heap e cls dx tb)
  (h : ∀ h', ExO h' e cls dx (some s.heap.objs.size) → Lft ((env :: outer).filterMap (·.frame)) e tb s.heap h' → Q () { s with heap := h' }) : wpAny M A (noteFrame (.ref e) env) (fun _ s' => wpAny M A (setFlight (.ref e) none) Q E s') E s := by
 obtain ⟨oe, vs, he, rfl, rfl, hd, hsz, ht⟩ := hx
 unfold noteFrame
 simp only [hf]
 cases tb with
 | none =>
  refine wpAny_bind (wpAny_field he hd ht ?_)
  rw [if_neg (by decide)]
  exact entry_x hfr hl hf he hd hsz h
 | some T =>
  obtain ⟨h1, ne, oT, ts, hT, dT, h3⟩ := ht
  have apart : ∀ b o, s.heap.get? b = some o → (∀ ws, o.data ≠ .fields ws) → b ≠ T := fun b o hb no z => by
   subst z
   cases hb.symm.trans hT
   exact no ts dT
  have out : T ∉ (env :: outer).filterMap (·.frame) := fun hm => by
   obtain ⟨_, o', ho', no⟩ := hl.mem hm
   exact apart T o' ho' no rfl
  refine wpAny_bind (wpAny_field he hd h1 ?_)
  rw [if_pos (by simp)]
  refine wpAny_bind (wpAny_field hT dT h3 ?_)
  rw [if_neg (by simp [rawInt])]
  refine wpAny_bind (wpAny_setField hT dT (Array.getElem?_eq_some_iff.mp h3).1 ?_)
  have oth : ∀ b, b ≠ T → (s.heap.update T (Obj.mapFields (·.setIfInBounds 3 Value.none))).get? b = s.heap.get? b := fun b z => Heap.get?_update_other _ _ (Ne.symm z)
  have self := Heap.get?_update_self (Obj.mapFields (·.setIfInBounds 3 Value.none)) hT (Obj.isFreed_of_fields (Obj.data_mapFields dT _))
  have fr := hl.of_keeps (h' := s.heap.update T (Obj.mapFields (·.setIfInBounds 3 Value.none))) fun b o hb no => ⟨o, (oth b (apart b o hb no)).trans hb, rfl⟩
  refine entry_x (oe := oe) (vs := vs) hfr fr hf ((oth e (Ne.symm ne)).trans he) hd hsz fun h' x k => ?_
  have sz : (s.heap.update T (Obj.mapFields (·.setIfInBounds 3 Value.none))).objs.size = s.heap.objs.size := Heap.size_update ..
  change ExO h' e oe.cls oe.dict (some (s.heap.update T (Obj.mapFields (·.setIfInBounds 3 Value.none))).objs.size) at x
  rw [sz] at x
  refine h h' x ⟨fun b o hS z zT hb => k.keep b o hS z (fun _ q => by cases q) ((oth b (zT T rfl)).trans hb), fun b o hS hb => k.slot b o hS ((oth b (fun q => out (q ▸ hS))).trans hb), fun b o hb => ?_⟩
  by_cases q : b = T
  ·exact q ▸ k.there _ _ self
  ·exact k.there b o ((oth b q).trans hb)
theorem leaving_x {base : Heap} {env : Env} {outer : List Env} {L e : Addr} {cls : Value} {dx tb : Option Addr} {Q : Unit → Shared → Prop}
  (hfr : A.frames = some (env :: outer)) (hl : s.heap.FunFrames base (env :: outer)) (hf : env.frame = some L) (hx : ExO s.heap e cls dx tb)
  (h : ∀ h', ExO h' e cls dx (some s.heap.objs.size) → Lft ((env :: outer).filterMap (·.frame)) e tb s.heap h' → Q () { s with heap := h' }) : wpAny M A (leaving env (.ref e)) Q E s := wpAny_bind (note_x hfr hl hf hx h)
end
noncomputable def CX1 (P : Program) (w : World) : CXT := fun outer H s E e s' => ∃ ea cls dx T H', e = .ref ea ∧ s'.os = s.os ∧ AllBare s'.gens ∧ Un (frs outer) [] H H' s.heap s'.heap ∧ HOk P w H' s'.heap ∧ ExO s'.heap ea cls dx (some T) ∧
 (s.heap.get? ea = none ∧ s.heap.get? T = none ∧ H' ea = none ∧ H' T = none) ∧ E cls dx H'
noncomputable instance {P : Program} {w : World} : Quiet (CX1 P w) := ⟨fun X pins σ H s e s' I h => by
 obtain ⟨_, _, _, _, _, _, _, _, _, _, _, _, h⟩ := h
 exact h.elim⟩
structure Fly (X : Cx) (pins : List (Addr × Obj)) (σ : St) (H : Hp) (s : Shared) (ea : Addr) (cls : Value) (dx tb : Option Addr) : Prop where
 inv : Inv X pins σ H s
 ex : ExO s.heap ea cls dx tb
 n0 : X.s₀.heap.get? ea = none
 nH : H ea = none
 tbs : ∀ T, tb = some T → X.s₀.heap.get? T = none ∧ H T = none
 apart : ∀ p ∈ X.pn ++ pins, p.1 ≠ ea ∧ ∀ T, tb = some T → p.1 ≠ T
noncomputable def Rz (X : Cx) (E : XK) : Prop := ∀ pins σ H s ea cls dx tb, Fly X pins σ H s ea cls dx tb → E cls dx H → X.xe (.ref ea) s
section
variable {P : Program} {w : World} {K : PySem.W.Frag} {mg : Str → Option Value} {base : Heap} {N : List Str} {qual : Str} {scope : Scope} {f : Addr} {cd : Value} {A : Around} {outer : List Env} {s : Shared} {H : Hp} {E : XK}
theorem rz_fn : Rz (cxOf (CX1 P w) P w K mg base N qual scope f cd A outer s H E) E := by
  intro pins σ H1 s1 ea cls dx tb F hE
  have I := F.inv
  have hst : (cxOf (CX1 P w) P w K mg base N qual scope f cd A outer s H E).stack = envOfC qual scope s.heap.objs.size f cd :: outer := rfl
  show wpAny (model P w) (A.deeper (envOfC qual scope s.heap.objs.size f cd)) (leaving (envOfC qual scope s.heap.objs.size f cd) (.ref ea)) _ _ s1
  refine leaving_x (base := base) (L := s.heap.objs.size) (by have := I.ok.frames; exact this) (by have := I.stack; exact this) rfl F.ex fun h' hx hk => ?_
  have hfree : ∀ b ∈ frs (envOfC qual scope s.heap.objs.size f cd :: outer), H1 b = none := I.stkFree
  have hin : ∀ b, b ∈ (envOfC qual scope s.heap.objs.size f cd :: outer).filterMap (·.frame) → b = s.heap.objs.size ∨ b ∈ frs outer := fun b hb => by
    rw [List.filterMap_cons] at hb
    exact (List.mem_cons.mp hb).elim .inl .inr
  have hne : ∀ b o, s.heap.get? b = some o → b ≠ ea ∧ (∀ T, tb = some T → b ≠ T) ∧ b ≠ s.heap.objs.size := fun b o e =>
    ⟨fun q => (by have h1 : s.heap.get? ea = none := F.n0; rw [q, h1] at e; cases e),
     fun T hT q => (by have h1 : s.heap.get? T = none := (F.tbs T hT).1; rw [q, h1] at e; cases e),
     Nat.ne_of_lt (Heap.lt_size e)⟩
  have B : Un (frs outer) [] H H1 s.heap s1.heap := I.base
  refine ⟨ea, cls, dx, _, H1, rfl, I.os, I.bare, ⟨fun b o q n hb hx => ?_, fun b o q n hb hx => ?_, B.free, fun b o q hx => ?_, B.tups, B.frzs, B.tbls⟩, fun b o q => ?_, hx, ⟨F.n0, ?_, F.nH, I.hok.fresh (Nat.le_refl _)⟩, hE⟩
  · obtain ⟨n1, n2, n3⟩ := hne b o q
    exact hk.keep b o (fun hm => (hin b hm).elim n3 hb) n1 n2 (B.keep b o q n hb hx)
  · obtain ⟨sl, e⟩ := B.slot b o q n hb hx
    obtain ⟨sl', e'⟩ := hk.slot b _ (by rw [List.filterMap_cons]; exact List.mem_cons_of_mem _ hb) e
    exact ⟨sl', e'⟩
  · obtain ⟨o', e⟩ := B.there b o q hx
    exact hk.there b o' e
  · have some_ne : ∀ c u, H1 c = some u → c ∉ (envOfC qual scope s.heap.objs.size f cd :: outer).filterMap (·.frame) ∧ c ≠ ea ∧ ∀ T, tb = some T → c ≠ T := fun c u e =>
      ⟨fun hm => (by rw [hfree c hm] at e; cases e), fun z => (by rw [z, F.nH] at e; cases e), fun T hT z => (by rw [z, (F.tbs T hT).2] at e; cases e)⟩
    refine (I.hok b o q).stay (fun c u hc e => ?_) (fun c e => e) (fun c xs e => e)
    rcases hc with z | z
    · obtain ⟨m1, m2, m3⟩ := some_ne b o q
      subst z
      exact hk.keep _ u m1 m2 m3 e
    · obtain ⟨m1, m2, m3⟩ := some_ne c _ z
      exact hk.keep c u m1 m2 m3 e
  · exact Heap.get?_none_of_le I.sz
end
section
variable {X : Cx} {E : XK}
theorem fly_of {pins : List (Addr × Obj)} {σ : St} {H : Hp} {s s' : Shared} {e : Value} (hex : X.ex = []) (I : Inv X pins σ H s) (h : CX1 X.prog X.w X.stack H s E e s') : ∃ ea cls dx T H', e = .ref ea ∧ Fly X pins σ H' s' ea cls dx (some T) ∧ E cls dx H' := by
 obtain ⟨ea, cls, dx, T, H', rfl, os, bare, un, hok, hx, ⟨n1, n2, n3, n4⟩, hE⟩ := h
 have I' := I.call' (ch := []) os un hok bare (fun b z => absurd z (by simp))
 have old : ∀ b, s.heap.get? b = none → X.s₀.heap.get? b = none := fun b hb => by
  cases q : X.s₀.heap.get? b with
  | none => rfl
  | some o =>
   obtain ⟨o', e⟩ := I.base.there b o q (by rw [hex]; simp)
   rw [hb] at e; cases e
 refine ⟨ea, cls, dx, T, H', rfl, ⟨I', hx, old ea n1, n3, (fun T' e => by cases e; exact ⟨old T n2, n4⟩), fun p hp => ⟨fun z => ?_, fun T' e z => ?_⟩⟩, hE⟩
 ·have q := (I.pin p hp).1
  rw [z, n1] at q; cases q
 ·cases e
  have q := (I.pin p hp).1
  rw [z, n2] at q; cases q
theorem Rz.passes (hex : X.ex = []) (h : Rz X E) : Passes (CX1 X.prog X.w) X E := fun pins σ H s e s' I q => by
 obtain ⟨ea, cls, dx, T, H', rfl, F, hE⟩ := fly_of hex I q
 exact h _ _ _ _ _ _ _ _ F hE
end
theorem ObjOk.there {P : Program} {w : World} {H : Hp} {h : Heap} {a : Addr} {o : HO} (x : ObjOk P w H h a o) : ∃ u, h.get? a = some u := by
 cases o with
 | lst xs => obtain ⟨_, _, _, _, e⟩ := x; exact ⟨_, e⟩
 | tup xs => obtain ⟨_, _, _, ⟨o, e, _⟩⟩ := x; exact ⟨_, e⟩
 | dK kvs => obtain ⟨_, _, _, _, o, _, _, e, _⟩ := x; exact ⟨_, e⟩
 | dT kvs => obtain ⟨_, _, _, _, o, _, _, e, _⟩ := x; exact ⟨_, e⟩
 | set S n => obtain ⟨o, _, _, _, e, _⟩ := x; exact ⟨_, e⟩
 | ins C dx fs => obtain ⟨_, _, _, e, _⟩ := x; exact ⟨_, e⟩
 | own y => obtain ⟨_, e⟩ := x; exact ⟨_, e⟩
 | xd fs => obtain ⟨_, ⟨_, _, _, e, _⟩, _⟩ := x; exact ⟨_, e⟩
 | rng lo hi => obtain ⟨_, _, _, e⟩ := x; exact ⟨_, e⟩
 | frz ob u => obtain ⟨e, _⟩ := x; exact ⟨_, e⟩
 | tbl ps => exact ⟨_, (show h.get? a = some _ from x)⟩
 | met f y => exact ⟨_, (show h.get? a = some _ from x)⟩
 | ext φ => obtain ⟨_, e, _⟩ := x; exact e
noncomputable abbrev vErr : List Value := [.type "ValueError", .type "Exception", .type "BaseException", .type "object"]
structure XcAt (K : PySem.W.Frag) (mg : Str → Option Value) (x : Str) (C R : Addr) (ini : Option Value) : Prop where
 mgC : mg x = some (.ref C)
 cls : ∃ N nm q bs sn sub ab col dd k0 k1 k2 k3 k5, K.lookup C = some (excClassObj nm q C N bs (.ref R :: vErr) true sn sub ab col dd k0 k1 k2 k3 k5 "ValueError.__new__") ∧ PySem.W.nsOkIn K N = true ∧ PySem.W.nsIn K N "__init__" = some ini ∧ PySem.W.nsIn K N "__setattr__" = some none
 road : ∃ c0 dd cd sl, K.lookup R = some { cls := c0, dict := dd, data := .cls cd, slots := sl } ∧ PySem.W.nsOkIn K cd.ns = true ∧ PySem.W.nsIn K cd.ns "__init__" = some none ∧ PySem.W.nsIn K cd.ns "__setattr__" = some none
theorem xcat_mk {K : PySem.W.Frag} {h : Heap} {mg : Str → Option Value} {x : Str} {C R N : Addr} {ini : Option Value} {nm q : Str} {bs : List Value} {sn : List Str} {sub : List Value} {ab : Bool} {col : Option Bool} {dd ddR : Option Addr} {k0 k1 k2 k3 k5 : Option Value} {c0 : Value} {cd : ClassData} {sl : Array (Option Value)} (X : K.In h) (G : h.Ns mainGlobals mg)
  (a : PySem.W.nsIn K mainGlobals x = some (some (.ref C))) (l : K.lookup C = some (excClassObj nm q C N bs (.ref R :: vErr) true sn sub ab col dd k0 k1 k2 k3 k5 "ValueError.__new__")) (o : PySem.W.nsOkIn K N = true) (i : PySem.W.nsIn K N "__init__" = some ini) (t : PySem.W.nsIn K N "__setattr__" = some none)
  (l' : K.lookup R = some { cls := c0, dict := ddR, data := .cls cd, slots := sl }) (o' : PySem.W.nsOkIn K cd.ns = true) (i' : PySem.W.nsIn K cd.ns "__init__" = some none) (t' : PySem.W.nsIn K cd.ns "__setattr__" = some none) : XcAt K mg x C R ini :=
 ⟨PySem.W.mg_of X G a, ⟨N, nm, q, bs, sn, sub, ab, col, dd, k0, k1, k2, k3, k5, l, o, i, t⟩, ⟨c0, ddR, cd, sl, l', o', i', t'⟩⟩
theorem XcAt.tail {K : PySem.W.Frag} {mg : Str → Option Value} {x : Str} {C R : Addr} {ini : Option Value} (c : XcAt K mg x C R ini) {h : Heap} (X : K.In h) : OwnTail h vErr (.ref R :: vErr) := by
 obtain ⟨c0, dd, cd, sl, l, o, i, _⟩ := c.road
 exact .own (X _ _ l) (.of_isNs (PySem.W.isNs_of_in X o)) (PySem.W.nsMap_none_of_in X o i) .base
section
variable {X : Cx} {E : XK}
theorem fly_new {pins : List (Addr × Obj)} {σ : St} {H : Hp} {s : Shared} {h' : Heap} {e : Addr} {cls : Value} {args : List Value} (hex : X.ex = []) (I : Inv X pins σ H s) (hm : Heap.MadeExcOf s.heap h' e cls args) : Fly X pins σ H { s with heap := h' } e cls none none := by
 have hn := hm.new
 obtain ⟨t, he, _, _⟩ := hm.there
 refine ⟨I.kept (t' := s.toks) hm.keeps, ⟨_, _, he, rfl, rfl, rfl, by show 1 < 6; decide, rfl⟩, ?_, ?_, (fun T q => by cases q), fun p hp => ⟨fun z => ?_, fun T q => by cases q⟩⟩
 ·cases q : X.s₀.heap.get? e with
  | none => rfl
  | some o =>
   obtain ⟨o', e'⟩ := I.base.there e o q (by rw [hex]; simp)
   rw [hn] at e'; cases e'
 ·cases q : H e with
  | none => rfl
  | some u =>
   obtain ⟨o', e'⟩ := (I.hok e u q).there
   rw [hn] at e'; cases e'
 ·have q := (I.pin p hp).1
  rw [z, hn] at q; cases q
noncomputable def tRaise0 (E : XK) (C : Addr) : TS := fun _ _ H => E (.ref C) none H
theorem ps_raise0 {x : Str} {C R : Addr} {np cpos pos : Pos} (c : XcAt X.K X.mg x C R none) (hz : Rz X E) (hc : X.calm = true) (hex : X.ex = []) (hg : Gl X x) (hdb : (x == ("__debug__" : Str)) = false := by decide) :
  PS X (.Raise (some (.Call (.Name x np) [] [] cpos)) none pos) (tRaise0 E C) := by
 intro pins s σ H D I h
 obtain ⟨N, nm, q, bs, sn, sub, ab, col, dd, k0, k1, k2, k3, k5, l, o, i, _⟩ := c.cls
 have T := c.tail I.kIn
 refine wpAny_Raise_call_subT PySem.F.excBase_ValueError (T.hasType (by decide +kernel)) (I.ok.hd hc) rfl (PySem.W.nsMap_none_of_in I.kIn o i) (ld_glob I hg c.mgC ⟨rfl, evalArgs_nil3 ⟨rfl, Nat.zero_le _, I.kIn _ _ l, .of_isNs (PySem.W.isNs_of_in I.kIn o), T, fun h' e hx => ?_⟩⟩ hdb)
 exact hz _ _ _ _ _ _ _ _ (fly_new hex I hx) h
end
end L2
set_option maxRecDepth 100000
set_option maxHeartbeats 1000000
namespace L2
open PySem PySem.Spec PyProof.Rows
section
variable {prog : Program} {w : World} {A : Around} {s : Shared} {K : PySem.W.Frag} {x C R : Addr} {cd : ClassData} {name : Str} {v : Value}
theorem set_x {E : Value → Shared → Prop} {vs : Array Value} {Q : Unit → Shared → Prop} (X : K.In s.heap) (hx : s.heap.get? x = some ⟨.ref C, none, .fields vs, #[]⟩) (hc : PySem.W.clsIn K C = some cd) (hm : cd.mro = .ref C :: .ref R :: vErr) (hd : cd.hasDict = true)
  (hs : PySem.W.findIn K (.ref C) "__setattr__" = some (some (.builtin "object.__setattr__"))) (ha : PySem.W.findIn K (.ref C) name = some none)
  (h : ∀ h' t', h'.get? x = some ⟨.ref C, some s.heap.objs.size, .fields vs, #[]⟩ → h'.Ns1 s.heap.objs.size (fun y => if y = name then some v else none) → (∀ b o, b ≠ x → s.heap.get? b = some o → h'.get? b = some o) → Q () { s with heap := h', toks := t' }) :
  wpAny (model prog w) A (setAttr (.ref x) name v) Q E s := by
 have I : PySem.W.InstAt s.heap x ⟨.ref C, none, .fields vs, #[]⟩ C none := ⟨hx, rfl, rfl, True.intro⟩
 have F := PySem.F.store_object
 have lc : PySem.W.Looks (model prog w) s.heap (classData C) cd := PySem.W.looks_clsIn X hc
 have sub : PySem.W.Looks (model prog w) s.heap (isInstance (.ref x) (.type "object")) true := I.type.andThen (PySem.W.looks_mroIn X (by unfold PySem.W.mroIn; rw [hc, Option.bind_some, hm]; rfl))
 have mro : PySem.W.Looks (model prog w) s.heap (mroOf (.ref C)) cd.mro := lc.andThen .now
 refine PySem.W.set_plain X I hs ?_
 refine codeAny_call_builtin F.slot.plain F.entry ?_
 refine @PySem.W.check_slot (model prog w) _ _ { s with toks := s.toks + 1 } "object.__setattr__" "object" "__setattr__" (.ref x) [.str name s.toks, v] [] _ F.kind F.split sub (F.args (.ref x) (.str name s.toks) v) ?_
 rw [PySem.W.osa_eq, refuse_eq]
 refine wpAny_bind (wpAny_bind (I.type.here (s := { s with toks := s.toks + 1 }) (wpAny_bind (mro.here (s := { s with toks := s.toks + 1 }) ?_))))
 rw [hm, refuseLoop_ref, refuseLoop_ref, PySem.F.store_ValueError.passes]
 refine wpAny_pure (wpAny_bind (I.type.here (s := { s with toks := s.toks + 1 }) (wpAny_bind ((PySem.W.looks_findIn X ha).here (s := { s with toks := s.toks + 1 }) (wpAny_bind (wpAny_pure ?_))))))
 refine wpAny_bind (wpAny_pure (wpAny_bind (wpAny_bind (wpAny_loadPart (s := { s with toks := s.toks + 1 }) hx (wpAny_bind (lc.here (s := { s with toks := s.toks + 1 }) ?_))))))
 rw [hd, if_neg (by decide)]
 have sx : x ≠ s.heap.objs.size := Nat.ne_of_lt (Heap.lt_size hx)
 have h1 : (s.heap.push { cls := .type "dict", data := .dict #[] }).get? x = some ⟨.ref C, none, .fields vs, #[]⟩ := Heap.get?_push_of_some _ hx
 have h2 := Heap.get?_update_self (fun o : Obj => { cls := o.cls, dict := some s.heap.objs.size, data := o.data, slots := o.slots }) h1 rfl
 have h3 : ((s.heap.push { cls := .type "dict", data := .dict #[] }).update x fun o => { cls := o.cls, dict := some s.heap.objs.size, data := o.data, slots := o.slots }).get? s.heap.objs.size = some { cls := .type "dict", data := .dict #[] } :=
  (Heap.get?_update_other _ _ sx).trans (Heap.get?_push_size _ rfl)
 have hn : ((s.heap.push { cls := .type "dict", data := .dict #[] }).update x fun o => { cls := o.cls, dict := some s.heap.objs.size, data := o.data, slots := o.slots }).Ns s.heap.objs.size (fun _ => none) :=
  ⟨_, #[], _, h3, rfl, fun e he => absurd he (by simp), fun _ => rfl⟩
 show wpAny _ _ (alloc { cls := .type "dict", data := .dict #[] } >>= fun d => update x (fun o => { cls := o.cls, dict := some d, data := o.data, slots := o.slots }) >>= fun _ => dictMade (.ref C) x d) _ _ _
 refine wpAny_bind (wpAny_alloc ?_)
 refine wpAny_bind (wpAny_update (s := { s with heap := s.heap.push { cls := .type "dict", data := .dict #[] }, toks := s.toks + 1 }) h1 ?_)
 refine wpAny_pure ?_
 show wpAny _ _ (Builtin.ObjectAttr.storeInDict s.heap.objs.size (.str name s.toks) name v) _ _ _
 unfold Builtin.ObjectAttr.storeInDict Builtin.ObjectAttr.newKeyGuard
 refine wpAny_bind (wpAny_pure (wpAny_bind (wpAny_nsSet1 (Heap.Ns1.of_empty hn) fun h' n' sb => ?_)))
 obtain ⟨oD, esD, epD, hoD, hdD, hcD⟩ := n'.count (PySem.Within.cons name v PySem.Within.nil)
 refine wpAny_bind (wpAny_lookBehind hoD (by rw [hdD]; exact pastItsLine_dict (Nat.le_trans hcD (by rw [List.length_cons, List.length_nil, sizeLine_eq]; omega))) ?_)
 refine wpAny_pure (h h' _ ((sb.2 x sx).trans h2) ?_ fun b o ne hb => ?_)
 ·obtain ⟨o', es, ep, e1, e2, e3, eu, e4⟩ := n'
  exact ⟨o', es, ep, e1, e2, e3, eu, fun y => by rw [e4 y]⟩
 ·exact (sb.2 b (Nat.ne_of_lt (Heap.lt_size hb))).trans ((Heap.get?_update_other _ _ (Ne.symm ne)).trans (Heap.get?_push_of_some _ hb))
end
section
variable {prog : Program} {w : World} {A : Around} {E : Value → Shared → Prop} {h : Heap} {g : Array GenState} {d : Drawn} {t : Nat} {os : OsState} {K : PySem.W.Frag}
variable {nm q : Str} {C N : Addr} {bs bm : List Value} {hdct : Bool} {sn : List Str} {sub : List Value} {ab : Bool} {col : Option Bool} {dd : Option Addr} {k0 k1 k2 k3 k5 : Option Value}
theorem tcall_x {rest : List Value} {fI : Addr} {Q : Fin → Shared → Prop} (X : K.In h) (T : OwnTail h vErr bm)
  (hC : h.get? C = some (excClassObj nm q C N bs bm hdct sn sub ab col dd k0 k1 k2 k3 k5 "ValueError.__new__")) (hi : PySem.W.findIn K (.ref C) "__init__" = some (some (.ref fI))) (hf : PySem.W.typeIn K (.ref fI) = some (.type "function"))
  (hr : rest.length ≤ sizeLine)
  (hq : ∀ h' e, Heap.MadeExcOf h h' e (.ref C) rest → wpAny (model prog w) A (call (.ref fI) (.ref e :: rest)) (fun r s' => r = .none ∧ Q (.done (.ret (.ref e))) s') E ⟨h', g, d, t, os⟩) :
  wpAny (model prog w) A (Builtin.«type.__call__» ⟨.ref C :: rest, []⟩) Q E ⟨h, g, d, t, os⟩ := by
 have F := PySem.F.excBase_ValueError
 repeat (first | with_reducible refine wpAny_loadPart_at hC ?_ | with_reducible refine wpAny_madeBy_exc hC ?_ | wp_step)
 refine codeAny_call_builtin_code (Code.quiet_builtin _ F.quiet) (wpAny_check_new_subT F T hC ?_)
 refine codeAny_exc_new_subT F T hC ?_ hr
 show wpAny _ _ _ _ _ _
 have up : ∀ b o, h.get? b = some o → ((h.push { cls := .type "tuple", data := .seq rest.toArray }).push { cls := .ref C, data := .fields #[.ref h.objs.size, .none, .none, .none, .bool false, .none] }).get? b = some o := fun b o e => Heap.get?_push_of_some _ (Heap.get?_push_of_some _ e)
 have C2 := up _ _ hC
 have X2 := X.keeps up
 have e2 : ((h.push { cls := .type "tuple", data := .seq rest.toArray }).push { cls := .ref C, data := .fields #[.ref h.objs.size, .none, .none, .none, .bool false, .none] }).get? (h.objs.size + 1) = some { cls := .ref C, data := .fields #[.ref h.objs.size, .none, .none, .none, .bool false, .none] } := by heap_get
 have t2 : ((h.push { cls := .type "tuple", data := .seq rest.toArray }).push { cls := .ref C, data := .fields #[.ref h.objs.size, .none, .none, .none, .bool false, .none] }).get? h.objs.size = some { cls := .type "tuple", data := .seq rest.toArray } := Heap.get?_push_of_some _ (Heap.get?_push_at rfl rfl)
 have made : Heap.MadeExcOf h ((h.push { cls := .type "tuple", data := .seq rest.toArray }).push { cls := .ref C, data := .fields #[.ref h.objs.size, .none, .none, .none, .bool false, .none] }) (h.objs.size + 1) (.ref C) rest :=
  ⟨up, Heap.get?_none_of_le (Nat.le_succ _), h.objs.size, e2, Heap.get?_none_of_le (Nat.le_refl _), t2⟩
 have q2 := hq _ _ made
 have me : (Value.ref C :: bm).contains (.ref C) = true := by simp
 generalize (h.push { cls := .type "tuple", data := .seq rest.toArray }).push { cls := .ref C, data := .fields #[.ref h.objs.size, .none, .none, .none, .bool false, .none] } = h2 at *
 unfold isInstance
 repeat (first | with_reducible refine wpAny_loadPart_at e2 ?_ | (with_reducible refine wpAny_isSubtype_exc C2 ?_; rw [me]) | wp_step)
 show wpAny _ _ (typeLookup (.ref C) _) _ _ _
 refine (PySem.W.looks_findIn X2 hi).here (s := ⟨h2, g, d, t, os⟩) ?_
 refine wpAny_holding (wpAny_bind ((PySem.W.bind_fn X2 _ hf).here (s := ⟨h2, g, d, t, os⟩) (wpAny_bind (wpAny_mono q2 (fun r s' hr => ?_) fun _ _ z => z))))
 obtain ⟨rfl, hQ⟩ := hr
 wp_walk
 exact hQ
theorem call_x {rest : List Value} {fI : Addr} {Q : Value → Shared → Prop} (X : K.In h) (T : OwnTail h vErr bm)
  (hC : h.get? C = some (excClassObj nm q C N bs bm hdct sn sub ab col dd k0 k1 k2 k3 k5 "ValueError.__new__")) (hi : PySem.W.findIn K (.ref C) "__init__" = some (some (.ref fI))) (hf : PySem.W.typeIn K (.ref fI) = some (.type "function"))
  (hr : rest.length ≤ sizeLine)
  (hq : ∀ h' e, Heap.MadeExcOf h h' e (.ref C) rest → wpAny (model prog w) (A.under (.builtin "type.__call__" ⟨.ref C :: rest, []⟩)) (call (.ref fI) (.ref e :: rest)) (fun r s' => r = .none ∧ Q (.ref e) s') E ⟨h', g, d, t, os⟩) :
  wpAny (model prog w) A (call (.ref C) rest) Q E ⟨h, g, d, t, os⟩ := by
 have f1 := tc_lookup
 have f2 := tc_bind (.ref C)
 have hT : (⟨h, g, d, t, os⟩ : Shared).TypeIs (.ref C) "type" := ⟨_, hC, rfl⟩
 refine wpAny_call (codeAny_of_tree ?_)
 show wpAny _ _ (callAny (.ref C) _) _ _ _
 repeat (any_goals (first | assumption | with_reducible refine wpAny_loadPart_at hC ?_ | wp_step))
 refine ⟨rfl, ?_⟩
 refine codeAny_call_builtin_at (Code.quiet_builtin _ (by decide +kernel)) entry_typeCall (wpAny_check_type_call_sub hC (tcall_x X T hC hi hf hr fun h' e hm => ?_))
 exact hq h' e hm
theorem raise_x {s : Shared} {env : Env} {x : Sem Value} {Q : Flow → Shared → Prop} (hbase : bm.contains (.type "BaseException") = true) (hh : A.handled = none)
  (hx : wpAny (model prog w) A x (fun v s₁ => ∃ e dx vs, v = .ref e ∧ s₁.heap.get? C = some (excClassObj nm q C N bs bm hdct sn sub ab col dd k0 k1 k2 k3 k5 "ValueError.__new__") ∧ s₁.heap.get? e = some ⟨.ref C, dx, .fields vs, #[]⟩ ∧ vs[1]? = some .none ∧ E (.ref e) s₁) E s) :
  wpAny (model prog w) A (raiseStmt env (some x) none) Q E s := by
 have me : (Value.ref C :: bm).contains (.type "BaseException") = true := by rw [List.contains_cons, hbase, Bool.or_true]
 unfold raiseStmt
 refine wpAny_bind (wpAny_mono hx (fun v s₁ h₁ => ?_) fun _ _ x => x)
 obtain ⟨e, dx, vs, rfl, hC, he, h1, hE⟩ := h₁
 obtain ⟨hp, g, d, tk, os⟩ := s₁
 repeat (first | with_reducible refine wpAny_loadPart_at he ?_ | with_reducible refine wpAny_loadPart_at hC ?_ | (with_reducible refine wpAny_isSubtype_exc hC ?_; rw [me]) | wp_step)
 rw [h1]
 refine wpAny_pure ?_
 rw [if_neg (by decide)]
 exact wpAny_pure (wpAny_raiseNew_none hh hE)
end
end L2
set_option maxRecDepth 100000
set_option maxHeartbeats 1000000
namespace L2
open PySem PySem.Spec PyProof.Rows
noncomputable def exN (e C : Addr) (dx : Option Addr) : Heap → Prop := fun h => ∃ vs : Array Value, h.get? e = some ⟨.ref C, dx, .fields vs, #[]⟩ ∧ 1 < vs.size ∧ vs[1]? = some .none
theorem exN_ok {P : Program} {w : World} {H : Hp} {h : Heap} {e C : Addr} {dx : Option Addr} (x : exN e C dx h) : ObjOk P w H h e (.ext (exN e C dx)) :=
 ⟨x, x.elim fun vs q => ⟨_, q.1⟩, fun h1 h2 x1 k => by obtain ⟨vs, q, r⟩ := x1; exact ⟨vs, k _ q, r⟩⟩
noncomputable def dropH (H : Hp) (e : Addr) : Hp := fun b => if b = e then none else H b
theorem dropH_ne {H : Hp} {e b : Addr} (n : b ≠ e) : dropH H e b = H b := by unfold dropH; rw [if_neg n]
theorem dropH_same {H : Hp} {e : Addr} : dropH H e e = none := by unfold dropH; rw [if_pos rfl]
section
variable {X : Cx} {pins : List (Addr × Obj)} {σ : St} {H : Hp} {s : Shared} {h' : Heap} {e C : Addr}
theorem Inv.drop {φ : Heap → Prop} (I : Inv X pins σ H s) (h : H e = some (.ext φ)) : Inv X pins σ (dropH H e) s := by
 have ne : ∀ {b : Addr} {o : HO}, H b = some o → (∀ ψ, o ≠ .ext ψ) → b ≠ e := fun {b o} q n z => by
  subst z
  rw [h] at q
  injection q with q
  exact n φ q.symm
 refine I.un (t' := s.toks) (h' := s.heap) ⟨fun b o q n _ _ => q, fun b o q n _ _ => ⟨o.slots, q⟩, fun b o q n _ => ?_, fun b o q _ => ⟨o, q⟩, fun b xs q => ?_, fun b o u q => ?_, fun b ps q => ⟨#[], ?_⟩⟩ fun b o q => ?_
 ·unfold dropH
  split
  ·rfl
  ·exact n
 ·rw [dropH_ne (ne q (by simp))]; exact q
 ·rw [dropH_ne (ne q (by simp))]; exact q
 ·rw [dropH_ne (ne q (by simp)), q]; simp
 ·have nb : b ≠ e := fun z => by rw [z, dropH_same] at q; cases q
  rw [dropH_ne nb] at q
  exact (I.hok b o q).stay (fun c u _ z => z) (fun c z => by rw [dropH_ne (ne z (by simp))]; exact z) fun c xs z => by rw [dropH_ne (ne z (by simp))]; exact z
theorem Inv.setx {vs : Array Value} {y : V} {u : Value} {f : Str} {t' : Nat} (I : Inv X pins σ H s) (hH : H e = some (.ext (exN e C none))) (he : h'.get? e = some ⟨.ref C, some s.heap.objs.size, .fields vs, #[]⟩) (v1 : 1 < vs.size) (v2 : vs[1]? = some .none)
  (hn : h'.Ns1 s.heap.objs.size (fun z => if z = f then some u else none)) (k : ∀ b o, b ≠ e → s.heap.get? b = some o → h'.get? b = some o) (ry : RelV y u) :
  Inv X pins σ (upd (upd H s.heap.objs.size (.xd [(f, y)])) e (.ext (exN e C (some s.heap.objs.size)))) { s with heap := h', toks := t' } := by
 have eN : e ≠ s.heap.objs.size := Nat.ne_of_lt (I.hok e _ hH).lt
 have hN : H s.heap.objs.size = none := I.hok.fresh (Nat.le_refl _)
 have nn : ∀ {b : Addr} {o : HO}, H b = some o → b ≠ s.heap.objs.size := fun {b o} q z => by rw [z, hN] at q; cases q
 have ne : ∀ {b : Addr} {o : HO}, H b = some o → (∀ ψ, o ≠ .ext ψ) → b ≠ e := fun {b o} q n z => by
  subst z
  rw [hH] at q
  injection q with q
  exact n _ q.symm
 have fr : ∀ b, H b = none → b ≠ e := fun b q z => by rw [z, hH] at q; cases q
 refine I.un (t' := t') ⟨fun b o q n _ _ => k b o (fr b n) q, fun b o q n _ _ => ⟨o.slots, k b o (fr b n) q⟩, fun b o q n _ => ?_, fun b o q _ => ?_, fun b xs q => ?_, fun b o u q => ?_, fun b ps q => ⟨#[], ?_⟩⟩ fun b o q => ?_
 ·rw [upd_ne (fr b n), upd_ne (Nat.ne_of_lt (Heap.lt_size q))]; exact n
 ·by_cases z : b = e
  ·exact ⟨_, z ▸ he⟩
  ·exact ⟨o, k b o z q⟩
 ·rw [upd_ne (ne q (by simp)), upd_ne (nn q)]; exact q
 ·rw [upd_ne (ne q (by simp)), upd_ne (nn q)]; exact q
 ·rw [upd_ne (ne q (by simp)), upd_ne (nn q), q]; simp
 ·by_cases z : b = e
  ·subst z
   rw [upd_same] at q
   cases q
   exact exN_ok ⟨vs, he, v1, v2⟩
  ·rw [upd_ne z] at q
   by_cases z2 : b = s.heap.objs.size
   ·subst z2
    rw [upd_same] at q
    cases q
    refine ⟨_, hn, fun g => ?_⟩
    show RelO (List.lookup g [(f, y)]) (if g = f then some u else none)
    by_cases c : g = f
    ·rw [if_pos c, c]
     simp only [List.lookup, BEq.rfl]
     exact ry
    ·rw [if_neg c]
     have : (g == f) = false := beq_eq_false_iff_ne.mpr c
     simp only [List.lookup, this]
     exact True.intro
   ·rw [upd_ne z2] at q
    refine (I.hok b o q).stay (fun c u hc g => ?_) (fun c g => by rw [upd_ne (ne g (by simp)), upd_ne (nn g)]; exact g) fun c xs g => by rw [upd_ne (ne g (by simp)), upd_ne (nn g)]; exact g
    rcases hc with r | r
    ·exact k c u (r ▸ z) g
    ·exact k c u (ne r (by simp)) g
end
structure XfAt (K : PySem.W.Frag) (C : Addr) (f : Str) : Prop where
 sa : PySem.W.findIn K (.ref C) "__setattr__" = some (some (.builtin "object.__setattr__"))
 no : PySem.W.findIn K (.ref C) f = some none
noncomputable def sFldX (C : Addr) (ta tv : TE) (f : Str) : TS := fun D σ H => tv σ H fun y H1 => ta σ H1 fun x H2 => ∃ e, x = .ref e ∧ H2 e = some (.ext (exN e C none)) ∧ ∀ dx, H2 dx = none → D.nx σ (upd (upd H2 dx (.xd [(f, y)])) e (.ext (exN e C (some dx))))
section
variable {X : Cx} {E : XK}
theorem XcAt.cd {K : PySem.W.Frag} {mg : Str → Option Value} {x : Str} {C R : Addr} {ini : Option Value} (c : XcAt K mg x C R ini) : ∃ cd : ClassData, PySem.W.clsIn K C = some cd ∧ cd.mro = .ref C :: .ref R :: vErr ∧ cd.hasDict = true := by
 obtain ⟨N, nm, q, bs, sn, sub, ab, col, dd, k0, k1, k2, k3, k5, l, _⟩ := c.cls
 unfold PySem.W.clsIn
 rw [l]
 exact ⟨_, rfl, rfl, rfl⟩
theorem ps_fldX {o value : Expr} {f x : Str} {C R : Addr} {ini : Option Value} {pos pos' : Pos} {ta tv : TE} (c : XcAt X.K X.mg x C R ini) (m : XfAt X.K C f) (ha : PE X o ta) (hv : PE X value tv) (hs : isComp value = false := by rfl) : PS X (.Assign [.Attribute o f pos'] value pos) (sFldX C ta tv f) := by
 intro pins s σ H D I h
 obtain ⟨cd, hc, hm, hd⟩ := c.cd
 refine plainObj_wpAny_Assign_Attribute (thn (hv pins s σ H _ I h) fun u s1 ⟨y, H1, I1, ry, q⟩ => thn (ha pins s1 σ H1 _ I1 q) fun ov s2 ⟨x, H2, I2, rx, e, ex, eH, q2⟩ => ?_) (swaps_of hs)
 subst ex
 obtain rfl : ov = Value.ref e := rx
 obtain ⟨⟨vs, he, v1, v2⟩, _⟩ := I2.hok e _ eH
 refine set_x I2.kIn he hc hm hd m.sa m.no fun h' t' g1 g2 g3 => ⟨σ, _, I2.setx eH g1 v1 v2 g2 g3 ry, q2 _ (I2.hok.fresh (Nat.le_refl _))⟩
end
noncomputable def tRaiseI (C : Addr) (sp : Sp) (E : XK) (ta : TA) : TS := fun _ σ H => ta σ H fun vs H1 => ∀ e, H1 e = none → sp (.ref e :: vs) (upd H1 e (.ext (exN e C none))) (fun v H2 => v = .non ∧ ∃ dx, H2 e = some (.ext (exN e C dx)) ∧ E (.ref C) dx (dropH H2 e)) E0
section
variable {X : Cx} {E : XK}
theorem Inv.newx {pins : List (Addr × Obj)} {σ : St} {H : Hp} {s : Shared} {h' : Heap} {e C : Addr} {args : List Value} (I : Inv X pins σ H s) (he : H e = none) (hm : Heap.MadeExcOf s.heap h' e (.ref C) args) : Inv X pins σ (upd H e (.ext (exN e C none))) { s with heap := h' } := by
 obtain ⟨t, oe, _, _⟩ := hm.there
 have ne : ∀ {b : Addr} {o : HO}, H b = some o → b ≠ e := fun {b o} q z => by rw [z, he] at q; cases q
 refine I.un (t' := s.toks) ⟨fun b o q n _ _ => hm.keeps b o q, fun b o q n _ _ => ⟨o.slots, hm.keeps b o q⟩, fun b o q n _ => ?_, fun b o q _ => ⟨o, hm.keeps b o q⟩, fun b xs q => ?_, fun b o u q => ?_, fun b ps q => ⟨#[], ?_⟩⟩ fun b o q => ?_
 ·rw [upd_ne (fun z => by rw [z, hm.new] at q; cases q)]; exact n
 ·rw [upd_ne (ne q)]; exact q
 ·rw [upd_ne (ne q)]; exact q
 ·rw [upd_ne (ne q), q]; simp
 ·by_cases z : b = e
  ·subst z
   rw [upd_same] at q
   cases q
   exact exN_ok ⟨_, oe, by show 1 < 6; decide, rfl⟩
  ·rw [upd_ne z] at q
   exact (I.hok b o q).stay (fun c u _ g => hm.keeps c u g) (fun c g => by rw [upd_ne (ne g)]; exact g) fun c xs g => by rw [upd_ne (ne g)]; exact g
theorem ps_raiseI {CX : CXT} [Quiet CX] {x : Str} {C R : Addr} {ini : Option Value} {k : Nat} {ps : List Str} {sp : Sp} {a : Expr} {es : List Expr} {ta : TA} {np cpos pos : Pos} (c : XcAt X.K X.mg x C R ini) (G : MtAt X.prog X.w X.K X.mg X.base CX C "__init__" k ps sp) (kp : PySem.W.keepIn X.K (.ref C) = true)
  (hr : Room (k + 1) X.A) (hz : Rz X E) (hc : X.calm = true) (hex : X.ex = []) (hg : Gl X x) (ha : PA X (a :: es) ta) (hdb : (x == ("__debug__" : Str)) = false := by decide)
  (he : starEach (a :: es) X.env = (false, eval a X.env) :: starEach es X.env := by rfl) (hpl : (backTo cpos (starEach es X.env)).any (·.1) = false := by rfl) (hlen : ∀ us : List Value, us.length + 1 = ps.length → us.length ≤ sizeLine := by intro us h; simp at h; rw [sizeLine_eq]; omega) :
  PS X (.Raise (some (.Call (.Name x np) (a :: es) [] cpos)) none pos) (tRaiseI C sp E ta) := by
 intro pins s σ H D I h
 obtain ⟨f, fd, F, M, hb⟩ := G
 obtain ⟨N, nm, q, bs, sn, sub, ab, col, dd, k0, k1, k2, k3, k5, l, _⟩ := c.cls
 rw [arm_exec_Raise]
 refine wpAny_bind (wpAny_standAt ?_)
 refine raise_x (nm := nm) (q := q) (C := C) (N := N) (bs := bs) (bm := .ref R :: vErr) (hdct := true) (sn := sn) (sub := sub) (ab := ab) (col := col) (dd := dd) (k0 := k0) (k1 := k1) (k2 := k2) (k3 := k3) (k5 := k5) ((c.tail I.kIn).hasType (by decide +kernel)) (I.ok.hd hc) ?_
 refine wpAny_bind (wpAny_mono (wpAny_Call_Name_kw (ld_glob I hg c.mgC (PySem.W.callWith_K (h₀ := X.base) I.ok.mod.kin kp (thn (ha cpos pins s σ H _ I h) fun us s1 ⟨vs, H1, I1, r, q1⟩ => ⟨I1.kIn, ?_⟩) he hpl) hdb)) (fun v s₃ h₃ => wpAny_bind (wpAny_standAt (wpAny_pure h₃))) fun _ _ z => z)
 have T := c.tail I1.kIn
 have hC := I1.kIn _ _ l
 have hl1 : us.length ≤ sizeLine := by
  have e0 := (q1 s1.heap.objs.size (I1.hok.fresh (Nat.le_refl _)))
  have e1 := F.len _ _ _ _ e0
  have e2 := r.length
  rw [List.length_cons] at e1
  exact hlen us (by omega)
 obtain ⟨hp, g, d, t, os⟩ := s1
 refine call_x I1.kIn T hC M.at_ (beq_iff_eq.mp M.fn) hl1 fun h' e hm => ?_
 have e0 : H1 e = none := by
  cases z : H1 e with
  | none => rfl
  | some u =>
   obtain ⟨o', e'⟩ := (I1.hok e u z).there
   rw [hm.new] at e'; cases e'
 have n0 : X.s₀.heap.get? e = none := by
  cases z : X.s₀.heap.get? e with
  | none => rfl
  | some o =>
   obtain ⟨o', e'⟩ := I1.base.there e o z (by rw [hex]; simp)
   rw [hm.new] at e'; cases e'
 have I2 := I1.newx e0 hm
 have hq := q1 e e0
 have r2 : Vals (V.ref e :: vs) (Value.ref e :: us) := .cons rfl r
 have hl : (Value.ref e :: us ++ []).length = ps.length := by
  have z := F.len _ _ _ _ hq
  rw [List.append_nil, ← r2.length]
  exact z
 refine wpAny_call (codeAny_mono (F.run _ X.stack _ _ ⟨Value.ref e :: us, []⟩ (Value.ref e :: us) _ _ E0 (hr.make C us []) (I2.env0.make C us []) (by have z := hb { heap := h', gens := g, drawn := d, toks := t, os := os } (Value.ref e :: us) I2.kIn hl; rw [List.append_nil] at z; exact z) r2 hq) fun r s' hq' => ?_)
 cases r with
 | error x => exact Quiet.pass X pins σ _ _ x s' I2 hq'
 | ok fl =>
  cases fl with
  | ret u =>
   obtain ⟨v, H', I3, rv, ev, dx, eH, hE⟩ := I2.after hq'
   subst ev
   obtain ⟨⟨ws, oe, w1, w2⟩, _⟩ := I3.hok e _ eH
   exact ⟨rv, e, dx, ws, rfl, I3.kIn _ _ l, oe, w2, hz _ _ _ _ _ _ _ none ⟨I3.drop eH, ⟨_, ws, oe, rfl, rfl, rfl, w1, w2⟩, n0, dropH_same, (fun T z => by cases z), fun p hp => ⟨fun z => (by have q := (I1.pin p hp).1; rw [z, hm.new] at q; cases q), fun T z => by cases z⟩⟩ hE⟩
  | next => exact False.elim hq'
  | brk => exact False.elim hq'
  | cont => exact False.elim hq'
end
end L2
set_option maxRecDepth 100000
set_option maxHeartbeats 1000000
namespace L2
open PySem PySem.Spec PyProof.Rows
noncomputable def exF (e : Addr) (cls : Value) (dx : Option Addr) : Heap → Prop := fun h => ∃ oe vs, h.get? e = some oe ∧ oe.cls = cls ∧ oe.dict = dx ∧ oe.data = .fields vs
theorem exF_ok {P : Program} {w : World} {H : Hp} {h : Heap} {e : Addr} {cls : Value} {dx : Option Addr} (x : exF e cls dx h) : ObjOk P w H h e (.ext (exF e cls dx)) :=
 ⟨x, x.elim fun oe q => q.elim fun vs q => ⟨_, q.1⟩, fun h1 h2 x1 k => by obtain ⟨oe, vs, q, r⟩ := x1; exact ⟨oe, vs, k _ q, r⟩⟩
noncomputable def exT (T : Addr) : Heap → Prop := fun h => ∃ o, h.get? T = some o
theorem exT_ok {P : Program} {w : World} {H : Hp} {h : Heap} {e : Addr} (x : exT e h) : ObjOk P w H h e (.ext (exT e)) :=
 ⟨x, x, fun h1 h2 x1 k => by obtain ⟨o, q⟩ := x1; exact ⟨o, k _ q⟩⟩
section
variable {X : Cx} {pins : List (Addr × Obj)} {σ : St} {H : Hp} {s : Shared} {h' : Heap} {ea : Addr} {cls : Value} {dx tb : Option Addr}
theorem Inv.track {a : Addr} {φ : Heap → Prop} (I : Inv X pins σ H s) (n : H a = none) (n0 : X.s₀.heap.get? a = none) (np : ∀ p ∈ X.pn ++ pins, p.1 ≠ a) (ho : ∃ o vs, s.heap.get? a = some o ∧ o.data = .fields vs)
  (k : ObjOk X.prog X.w (upd H a (.ext φ)) s.heap a (.ext φ)) : Inv X pins σ (upd H a (.ext φ)) s := by
 obtain ⟨o, vs, ho, hd⟩ := ho
 have ne : ∀ {b : Addr} {u : HO}, H b = some u → b ≠ a := fun {b u} q z => by rw [z, n] at q; cases q
 have nl : X.env.locals ≠ a := fun z => by
  obtain ⟨m, ⟨o', es, ep, e1, e2, _⟩, _⟩ := I.loc
  rw [z, ho] at e1; cases e1
  rw [hd] at e2; cases e2
 have nc : ∀ x c, X.env.cells.lookup x = some c → c ≠ a := fun x c e z => by
  obtain ⟨v, o', e1, e2⟩ := I.cell x c e
  rw [z, ho] at e1; cases e1
  rw [hd] at e2; cases e2
 refine ⟨I.ok, I.os, I.bare, ⟨I.base.keep, I.base.slot, fun b u q m hx => ?_, I.base.there, fun b xs q => ?_, fun b o u q => ?_, fun b ps q => ?_⟩, I.loc, I.cell, ?_, fun x c e => ?_, fun p hp => ?_, fun b u q => ?_, I.len⟩
 ·rw [upd_ne (fun z => by rw [z, n0] at q; cases q)]; exact I.base.free b u q m hx
 ·have q' := I.base.tups b xs q
  rw [upd_ne (ne q')]; exact q'
 ·have q' := I.base.frzs b o u q
  rw [upd_ne (ne q')]; exact q'
 ·obtain ⟨more, q'⟩ := I.base.tbls b ps q
  exact ⟨more, by rw [upd_ne (ne q')]; exact q'⟩
 ·rw [upd_ne nl]; exact I.free
 ·rw [upd_ne (nc x c e)]; exact I.freeC x c e
 ·obtain ⟨p1, p2, p3⟩ := I.pin p hp
  exact ⟨p1, by rw [upd_ne (np p hp)]; exact p2, p3⟩
 ·by_cases z : b = a
  ·subst z
   rw [upd_same] at q
   cases q
   exact k
  ·rw [upd_ne z] at q
   exact (I.hok b u q).stay (fun c v _ g => g) (fun c g => by rw [upd_ne (ne g)]; exact g) fun c xs g => by rw [upd_ne (ne g)]; exact g
theorem Inv.left (I : Inv X pins σ H s) {T : Option Addr} (hT : ∀ t, T = some t → H t = some (.ext (exT t))) (he : H ea = some (.ext (exT ea))) (hk : Lft (frs X.stack) ea T s.heap h') (hx : exF ea cls dx h') :
  Inv X pins σ (upd H ea (.ext (exF ea cls dx))) { s with heap := h' } := by
 have ne : ∀ {b : Addr} {o : HO}, H b = some o → (∀ ψ, o ≠ .ext ψ) → b ≠ ea ∧ ∀ t, T = some t → b ≠ t := fun {b o} q n => ⟨fun z => by
  subst z
  rw [he] at q
  injection q with q
  exact n _ q.symm, fun t ht z => by
  subst z
  rw [hT b ht] at q
  injection q with q
  exact n _ q.symm⟩
 have fr : ∀ b, H b = none → b ≠ ea ∧ ∀ t, T = some t → b ≠ t := fun b q => ⟨(fun z => by rw [z, he] at q; cases q), fun t ht z => by rw [z, hT t ht] at q; cases q⟩
 refine I.call' (s' := { s with heap := h' }) (ch := []) rfl ⟨fun b o q n hb _ => ?_, fun b o q n hb _ => hk.slot b o hb q, fun b o q n _ => ?_, fun b o q _ => hk.there b o q, fun b xs q => ?_, fun b o u q => ?_, fun b ps q => ⟨#[], ?_⟩⟩ (fun b o q => ?_) I.bare (fun b z => absurd z (by simp))
 ·exact hk.keep b o hb (fr b n).1 (fr b n).2 q
 ·rw [upd_ne (fr b n).1]; exact n
 ·rw [upd_ne (ne q (by simp)).1]; exact q
 ·rw [upd_ne (ne q (by simp)).1]; exact q
 ·rw [upd_ne (ne q (by simp)).1, q]; simp
 ·by_cases z : b = ea
  ·subst z
   rw [upd_same] at q
   cases q
   exact exF_ok hx
  ·rw [upd_ne z] at q
   by_cases zT : T = some b
   ·have q' := hT b zT
    rw [q] at q'
    injection q' with q'
    subst q'
    obtain ⟨⟨o, e1⟩, _⟩ := (show ObjOk X.prog X.w H s.heap b (.ext (exT b)) from I.hok b _ q)
    obtain ⟨o', e2⟩ := hk.there b o e1
    exact exT_ok ⟨o', e2⟩
   ·have nS : ∀ {c : Addr} {u : HO}, H c = some u → c ∉ frs X.stack := fun {c u} g m => by rw [I.stkFree c m] at g; cases g
    refine (I.hok b o q).stay (fun c u hc g => ?_) (fun c g => by rw [upd_ne (ne g (by simp)).1]; exact g) fun c xs g => by rw [upd_ne (ne g (by simp)).1]; exact g
    rcases hc with r | r
    ·rw [r] at g ⊢
     exact hk.keep b u (nS q) z (fun t ht e => zT (e ▸ ht)) g
    ·exact hk.keep c u (nS r) (ne r (by simp)).1 (ne r (by simp)).2 g
theorem Fly.land {T' : Addr} (F : Fly X pins σ H s ea cls dx tb) (hk : Lft (frs X.stack) ea tb s.heap h') (hx : ExO h' ea cls dx (some T')) : Inv X pins σ (upd H ea (.ext (exF ea cls dx))) { s with heap := h' } := by
 obtain ⟨oe, vs, he, hc, hd, hdata, hsz, hT⟩ := F.ex
 have hx' : exF ea cls dx h' := by obtain ⟨o, ws, e1, e2, e3, e4, _⟩ := hx; exact ⟨o, ws, e1, e2, e3, e4⟩
 have I1 := F.inv.track (φ := exT ea) F.nH F.n0 (fun p hp => (F.apart p hp).1) ⟨oe, vs, he, hdata⟩ (exT_ok ⟨oe, he⟩)
 cases tb with
 | none =>
  have I2 := I1.left (T := none) (fun t z => by cases z) upd_same hk hx'
  have e : upd (upd H ea (.ext (exT ea))) ea (.ext (exF ea cls dx)) = upd H ea (.ext (exF ea cls dx)) := by
   funext b; unfold upd; split <;> rfl
  rw [e] at I2
  exact I2
 | some T =>
  obtain ⟨h1, ne, oT, ts, hT, dT, h3⟩ := hT
  obtain ⟨t0, tH⟩ := F.tbs T rfl
  have I2 := I1.track (φ := exT T) (by rw [upd_ne ne]; exact tH) t0 (fun p hp => (F.apart p hp).2 T rfl) ⟨oT, ts, hT, dT⟩ (exT_ok ⟨oT, hT⟩)
  have I3 := I2.left (T := some T) (fun t z => by cases z; exact upd_same) (by rw [upd_ne (Ne.symm ne)]; exact upd_same) hk hx'
  have I4 := I3.drop (e := T) (φ := exT T) (by rw [upd_ne ne]; exact upd_same)
  have e : dropH (upd (upd (upd H ea (.ext (exT ea))) T (.ext (exT T))) ea (.ext (exF ea cls dx))) T = upd H ea (.ext (exF ea cls dx)) := by
   funext b
   unfold dropH upd
   by_cases z : b = T
   ·subst z; simp [ne, tH]
   ·by_cases z2 : b = ea <;> simp [z, z2, Ne.symm ne]
  rw [e] at I4
  exact I4
theorem heap_at {h : Heap} {a : Addr} {o : Obj} (e : h.get? a = some o) : h.objs[a]? = some o := by
 unfold Heap.get? at e
 split at e
 ·cases e
 ·exact e
theorem heap_update_id {h : Heap} {a : Addr} {o : Obj} {f : Obj → Obj} (e : h.get? a = some o) (i : f o = o) : h.update a f = h := by
 have e' := heap_at e
 obtain ⟨objs, l⟩ := h
 have : objs.modify a f = objs := by
  apply Array.ext (by simp)
  intro j h1 h2
  rw [Array.getElem_modify]
  split
  ·rename_i z
   subst z
   have q : objs[a]? = some o := e'
   rw [Array.getElem?_eq_getElem h2] at q
   rw [Option.some.inj q, i]
  ·rfl
 show (⟨objs.modify a f, l⟩ : Heap) = _
 rw [this]
theorem flight_x {M : Model} {A : Around} {E : Value → Shared → Prop} {T : Addr} {Q : Unit → Shared → Prop} (hx : ExO s.heap ea cls dx (some T)) (h : Q () s) : wpAny M A (setFlight (.ref ea) none) Q E s := by
 obtain ⟨oe, vs, he, _, _, hd, hsz, h1, ne, oT, ts, hT, dT, h3⟩ := hx
 unfold setFlight
 refine wpAny_bind (wpAny_field he hd h1 ?_)
 rw [if_pos (by simp)]
 refine wpAny_setField hT dT (Array.getElem?_eq_some_iff.mp h3).1 ?_
 rw [heap_update_id hT]
 ·exact h
 ·obtain ⟨c, d, dt, sl⟩ := oT
  obtain rfl : dt = .fields ts := dT
  show Obj.mk c d (.fields (ts.setIfInBounds 3 Value.none)) sl = _
  congr 1
  congr 1
  obtain ⟨l3, e3⟩ := Array.getElem?_eq_some_iff.mp h3
  apply Array.ext (by simp)
  intro j h1 h2
  rw [Array.getElem_setIfInBounds]
  split
  ·rename_i z; subst z; exact e3.symm
  ·rfl
end
noncomputable abbrev Cx.tryC (X : Cx) (pn : List (Addr × Obj)) (σ : St) (E : XK) : Cx := { X with pn := X.pn ++ pn, xe := fun e s => ∃ ea cls dx tb H', e = .ref ea ∧ Fly X pn σ H' s ea cls dx tb ∧ E cls dx H' }
noncomputable abbrev Cx.hand (X : Cx) (e : Value) : Cx := { X with A := X.A.mark (some e), calm := false, xe := fun _ _ => False }
section
variable {X : Cx} {pins pn : List (Addr × Obj)} {σ σ0 : St} {H : Hp} {s : Shared} {E : XK}
theorem Cx.Ok.tryC (ok : X.Ok) : (X.tryC pn σ E).Ok :=
 ⟨ok.mod, ok.kind, ok.glob, ok.blt, ok.above, ok.inj, ok.has, ok.cab, ok.hd, ok.frames, ok.stk, ok.exf, ok.bs, ok.bsz, ok.noex, ok.exfs, ok.funs, ok.frf⟩
theorem Cx.Ok.untry (ok : (X.tryC pn σ E).Ok) : X.Ok :=
 ⟨ok.mod, ok.kind, ok.glob, ok.blt, ok.above, ok.inj, ok.has, ok.cab, ok.hd, ok.frames, ok.stk, ok.exf, ok.bs, ok.bsz, ok.noex, ok.exfs, ok.funs, ok.frf⟩
theorem Cx.Ok.hand {e : Value} (ok : X.Ok) : (X.hand e).Ok :=
 ⟨ok.mod, ok.kind, ok.glob, ok.blt, ok.above, ok.inj, ok.has, ok.cab, (fun z => by cases z), ok.frames, ok.stk, ok.exf, ok.bs, ok.bsz, ok.noex, ok.exfs, ok.funs, ok.frf⟩
theorem Inv.tryC (I : Inv X pn σ H s) : Inv (X.tryC pn σ0 E) [] σ H s := ⟨I.ok.tryC, I.os, I.bare, I.base, I.loc, I.cell, I.free, I.freeC, fun p hp => I.pin p (by rw [List.append_nil] at hp; exact hp), I.hok, I.len⟩
theorem Inv.untry (I : Inv (X.tryC pn σ0 E) pins σ H s) : Inv X pn σ H s := ⟨I.ok.untry, I.os, I.bare, I.base, I.loc, I.cell, I.free, I.freeC, fun p hp => I.pin p (List.mem_append_left _ hp), I.hok, I.len⟩
theorem Inv.hand {e : Value} (I : Inv X pins σ H s) : Inv (X.hand e) pins σ H s := ⟨I.ok.hand, I.os, I.bare, I.base, I.loc, I.cell, I.free, I.freeC, I.pin, I.hok, I.len⟩
theorem Inv.unhand {e : Value} (ok : X.Ok) (I : Inv (X.hand e) pins σ H s) : Inv X pins σ H s := ⟨ok, I.os, I.bare, I.base, I.loc, I.cell, I.free, I.freeC, I.pin, I.hok, I.len⟩
theorem Fly.untry {ea : Addr} {cls : Value} {dx tb : Option Addr} (F : Fly (X.tryC pn σ0 E) pins σ H s ea cls dx tb) : Fly X pn σ H s ea cls dx tb := ⟨F.inv.untry, F.ex, F.n0, F.nH, F.tbs, fun p hp => F.apart p (List.mem_append_left _ hp)⟩
theorem SP.untry {D : Ends} {f : Flow} {s' : Shared} (h : SP (X.tryC pn σ0 E) pins D f s') : SP X pn D f s' := by
 cases f with
 | next => obtain ⟨σ', H', I, q⟩ := h; exact ⟨σ', H', I.untry, q⟩
 | brk => obtain ⟨σ', H', I, q⟩ := h; exact ⟨σ', H', I.untry, q⟩
 | cont => obtain ⟨σ', H', I, q⟩ := h; exact ⟨σ', H', I.untry, q⟩
 | ret u => obtain ⟨v, σ', H', I, r, q⟩ := h; exact ⟨v, σ', H', I.untry, r, q⟩
noncomputable def PassS (CX : CXT) (X : Cx) (σ : St) (E : XK) : Prop := ∀ (pins : List (Addr × Obj)) (H : Hp) (s : Shared) (e : Value) (s' : Shared), Inv X pins σ H s → CX X.stack H s E e s' → X.xe e s'
theorem pass_try (hex : X.ex = []) : PassS (CX1 X.prog X.w) (X.tryC pn σ E) σ E := fun pins H s e s' I h => by
 obtain ⟨ea, cls, dx, T, H', rfl, F, hE⟩ := fly_of (X := X.tryC pn σ E) hex I h
 exact ⟨ea, cls, dx, some T, H', rfl, F.untry, hE⟩
end
end L2
set_option maxRecDepth 100000
set_option maxHeartbeats 1000000
namespace L2
open PySem PySem.Spec PyProof.Rows
noncomputable def tCallS (σ0 : St) (sp : Sp) (E : XK) (t : TA) : TE := fun σ H Q => σ = σ0 ∧ t σ H fun vs H1 => sp vs H1 Q E
noncomputable def tMakeS (σ0 : St) (C : Addr) (sp : Sp) (E : XK) (t : TA) : TE := fun σ H Q => σ = σ0 ∧ t σ H fun vs H1 => ∀ x dx, H1 x = none → H1 dx = none → dx ≠ x →
 sp (.ref x :: vs) (upd (upd H1 dx (.own x)) x (.ins C dx [])) (fun v H2 => v = .non ∧ Q (.ref x) H2) E
noncomputable def tMtS (σ0 : St) (C : Addr) (m : Str) (sp : Sp) (E : XK) (ta : TE) (t : TA) : TE := fun σ H Q => σ = σ0 ∧ ta σ H fun x H1 => rMt C m x H1 (t σ H1 fun vs H2 => sp (x :: vs) H2 Q E)
section
variable {X : Cx} {CX : CXT} {k n : Nat} {f C : Addr} {fd : FuncData} {ps : List Str} {sp : Sp} {E : XK} {x m : Str} {p pos apos : Pos} {e o : Expr} {es : List Expr} {ta : TE} {t : TA} {σ0 : St}
theorem run_fnS {pins : List (Addr × Obj)} {H : Hp} {s : Shared} {Q : VK} {us : List Value} {vs : List V} (F : FnOk X.prog X.w X.K X.mg X.base CX k f fd ps sp) (hr : Room k X.A) (hb : Binds X.K fd ps []) (hx : PassS CX X σ0 E)
  (I : Inv X pins σ0 H s) (r : Vals vs us) (h : sp vs H Q E) : wpAny (model X.prog X.w) X.A (call (.ref f) us) (EP X pins σ0 Q) X.xe s := by
 have hl : (us ++ []).length = ps.length := by rw [List.append_nil, ← r.length]; exact F.len _ _ _ _ h
 refine wpAny_call (codeAny_mono (F.run X.A X.stack s H ⟨us, []⟩ us vs Q E hr I.env0 (by have z := hb s us I.kIn hl; rw [List.append_nil] at z; exact z) r h) fun r s' hq => ?_)
 cases r with
 | error e => exact hx pins H s e s' I hq
 | ok fl =>
  cases fl with
  | ret u => exact I.after hq
  | next => exact False.elim hq
  | brk => exact False.elim hq
  | cont => exact False.elim hq
theorem pe_mtS {pl : Sem Bool} (he : PE X o ta) (c : KlsAt X.K X.mg x C) (G : MtAt X.prog X.w X.K X.mg X.base CX C m k ps sp) (hr : Room n X.A) (hk : k ≤ n) (hx : PassS CX X σ0 E) (ha : PA X (e :: es) t) (hst : (e :: es).any isStar = false := by rfl)
  (ht : eval (.Call (.Attribute o m apos) (e :: es) [] pos) X.env = (do
   let ov ← eval o X.env
   standAt apos.atName
   let (f, first) ← holding [ov] (getMethod ov m pl)
   callWith pos f first (backTo pos (starEach (e :: es) X.env)) (backToKw pos (keywordEach [] X.env))) := by rfl) :
  PE X (.Call (.Attribute o m apos) (e :: es) [] pos) (tMtS σ0 C m sp E ta t) := by
 obtain ⟨f, fd, F, hm, b⟩ := G
 rw [List.any_cons, Bool.or_eq_false_iff] at hst
 intro pins s σ H Q I ⟨hσ, h⟩
 subst hσ
 refine PySem.W.methodCall_KW (pl := pl) (thn (he pins s σ H _ I h) fun u s1 ⟨x, H1, I1, rx, a, ex, dx, fs, ea, l, q⟩ => ?_) ht
 subst ex
 obtain rfl : u = Value.ref a := rx
 refine getmeth_ok I1 ea c.cl hm l ?_
 refine PySem.W.callWith_K (first := [.ref a]) (h₀ := X.base) I.ok.mod.kin hm.kp (thn (ha pos pins s1 σ H1 _ I1 q) fun us s2 ⟨vs, H2, I2, r, q2⟩ => ⟨I2.kIn, ?_⟩) (starEach_of hst.1) (noStars hst.2)
 exact run_fnS (us := .ref a :: us) (vs := .ref a :: vs) F (hr.mono hk) b hx I2 (.cons rfl r) q2
end
structure XmAt (K : PySem.W.Frag) (mg : Str → Option Value) (x : Str) (C : Addr) : Prop where
 mgC : mg x = some (.ref C)
 ty : PySem.W.typeIn K (.ref C) = some (.type "type")
 ex : PySem.W.mroIn K C (.type "BaseException") = some true
noncomputable def isx (K : PySem.W.Frag) (cls : Value) (C : Addr) : Option Bool := match cls with
 | .ref D => PySem.W.mroIn K D (.ref C)
 | _ => none
noncomputable def hx2 (o : Option Bool) (p q : Prop) : Prop := match o with
 | some true => p
 | some false => q
 | none => False
theorem hx2_t {p q : Prop} : hx2 (some true) p q = p := rfl
theorem hx2_f {p q : Prop} : hx2 (some false) p q = q := rfl
section
variable {prog : Program} {w : World} {A : Around} {E : Value → Shared → Prop} {s : Shared} {K : PySem.W.Frag}
theorem xmatch {mg : Str → Option Value} {x : Str} {C e : Addr} {oe : Obj} {b : Bool} {Q : Bool → Shared → Prop} (X : K.In s.heap) (he : s.heap.get? e = some oe) (m : XmAt K mg x C) (hb : isx K oe.cls C = some b) (h : Q b s) :
  wpAny (model prog w) A (excMatches (.ref e) (.ref C)) Q E s := by
 have L1 : PySem.W.Looks (model prog w) s.heap (isInstance (.ref C) (.type "tuple")) false := (PySem.W.looks_typeIn X m.ty).andThen (PySem.W.Looks.of_pure tc_notTuple)
 have L3 : PySem.W.Looks (model prog w) s.heap (isSubtype (.ref C) (.type "BaseException")) true := PySem.W.looks_mroIn X m.ex
 have L2 : PySem.W.Looks (model prog w) s.heap (isType (.ref C)) true := by
  have z := m.ex
  unfold PySem.W.mroIn at z
  obtain ⟨cd, hc, _⟩ := Option.bind_eq_some_iff.mp z
  unfold PySem.W.clsIn at hc
  split at hc
  ·rename_i ho
   intro A' Q' E' s' k q
   unfold isType loadHead
   exact wpAny_bind (wpAny_loadPart (k _ _ (X _ _ ho)) (wpAny_pure q))
  ·cases hc
 have L4 : PySem.W.Looks (model prog w) s.heap (typeOf (.ref e)) oe.cls := (PySem.W.Looks.ld he).andThen .now
 have L5 : PySem.W.Looks (model prog w) s.heap (isSubtype oe.cls (.ref C)) b := by
  unfold isx at hb
  split at hb
  ·rename_i D hD
   rw [hD]
   exact PySem.W.looks_mroIn X hb
  ·cases hb
 unfold excMatches
 refine wpAny_bind (L1.here ?_)
 dsimp only
 rw [if_neg (by decide)]
 refine wpAny_bind (wpAny_pure ?_)
 rw [List.forIn_cons]
 refine wpAny_bind (wpAny_bind (wpAny_bind ?_))
 unfold isExcClass
 refine wpAny_bind (L2.here ?_)
 rw [if_pos rfl]
 refine L3.here ?_
 simp only [Bool.not_true, Bool.false_eq_true, if_false]
 refine wpAny_pure ?_
 dsimp only
 rw [List.forIn_nil]
 refine wpAny_pure ?_
 refine wpAny_bind (L4.here ?_)
 rw [List.forIn_cons]
 refine wpAny_bind (wpAny_bind (wpAny_bind (L5.here ?_)))
 cases b with
 | true => exact wpAny_pure (wpAny_pure (wpAny_pure h))
 | false =>
  refine wpAny_pure ?_
  dsimp only
  rw [List.forIn_nil]
  exact wpAny_pure (wpAny_pure h)
end
section
variable {X : Cx} {pins : List (Addr × Obj)} {σ : St} {H : Hp} {s : Shared} {M : Model} {A : Around} {E : Value → Shared → Prop}
theorem unbind_ok {i : Nat} {x : Str} {pos : Pos} {Q : Unit → Shared → Prop} (I : Inv X pins σ H s) (hN : X.N.Nodup) (hi : X.N[i]? = some x) (hk : X.env.scope.names.lookup x = some .local)
  (h : ∀ s', Inv X pins (σ.set i none) H s' → Q () s') : wpAny M A (do bindName X.env x .none; unbindBehindTheSuite X.env x pos) Q E s := by
 refine wpAny_bind (wpAny_bindName (store_ok (v := .non) I hN hi (.inl hk) rfl (fun s1 I1 => ?_) (.inr hk)))
 have hiσ : i < σ.length := by rw [I.len]; exact (List.getElem?_eq_some_iff.mp hi).1
 obtain ⟨m, hn, hl⟩ := id I1.loc
 have hcls : (X.env.scope.kind == .class || (X.env.scope.kind == .module && X.env.locals != X.env.globals)) = false := by rw [I.ok.kind]; rfl
 have hkk : X.env.kindOf x = some .local := hk
 have hv : ∃ u, m x = some u := by
  obtain ⟨u, _, q⟩ := hl i x .non hi (by rw [List.getElem?_set_self hiσ]) (.inl hk)
  rcases q with ⟨_, q⟩ | ⟨q, _⟩
  ·exact ⟨u, q⟩
  ·rcases q with q | q <;> rw [hkk] at q <;> cases q
 obtain ⟨u, hv⟩ := hv
 unfold unbindBehindTheSuite
 refine wpAny_onRaise (wpAny_unbindName_local hkk hn hv hcls fun h' u' hn' hs => h _ ?_)
 obtain ⟨oL, _, _, hoL, _⟩ := id hn
 have cne := I1.cne
 refine ⟨I1.ok, I1.os, I1.bare, ⟨fun b o e n hb hx => ?_, fun b o e n hb hx => ?_, I1.base.free, fun b o e hx => ?_, I1.base.tups, I1.base.frzs, I1.base.tbls⟩, ⟨_, hn', fun j y v' e1 e2 e3 => ?_⟩, fun y c e => ?_, I1.free, I1.freeC, fun p hp => ?_, fun b ob e => ?_, by simpa using I.len⟩
 ·exact (hs.2 b (Nat.ne_of_lt (Nat.lt_of_lt_of_le (Heap.lt_size e) I1.ok.above))).trans (I1.base.keep b o e n hb hx)
 ·obtain ⟨sl, e1⟩ := I1.base.slot b o e n hb hx
  exact ⟨sl, (hs.2 b (Nat.ne_of_lt (Nat.lt_of_lt_of_le (Heap.lt_size e) I1.ok.above))).trans e1⟩
 ·obtain ⟨o', e1⟩ := I1.base.there b o e hx
  exact ⟨o', (hs.2 b (Nat.ne_of_lt (Nat.lt_of_lt_of_le (Heap.lt_size e) I1.ok.above))).trans e1⟩
 ·by_cases hj : j = i
  ·subst hj
   rw [List.getElem?_set_self hiσ] at e2
   cases e2
  ·rw [List.getElem?_set_ne (Ne.symm hj)] at e2
   obtain ⟨u3, r3, q⟩ := hl j y v' e1 (by rw [List.getElem?_set_ne (Ne.symm hj)]; exact e2) e3
   refine ⟨u3, r3, ?_⟩
   rcases q with ⟨k, e⟩ | ⟨k, c, e, z⟩
   ·refine .inl ⟨k, ?_⟩
    have : y ≠ x := fun e => hj (nodup_ix hN e1 (e ▸ hi))
    simp [this, e]
   ·exact .inr ⟨k, c, e, z.sameBut hs (cne y c e)⟩
 ·obtain ⟨w', z⟩ := I1.cell y c e
  exact ⟨w', z.sameBut hs (cne y c e)⟩
 ·obtain ⟨e, n, ne, nf, d⟩ := I1.pin p hp
  exact ⟨(hs.2 p.1 ne).trans e, n, ne, nf, d⟩
 ·refine (I1.hok b ob e).stay (fun c w' hc q => (hs.2 c ?_).trans q) (fun _ q => q) fun _ _ q => q
  rintro rfl
  rcases hc with z | z
  ·subst z; rw [I1.free] at e; cases e
  ·rw [I1.free] at z; cases z
end
noncomputable abbrev TH := Ends → St → Value → Option Addr → Hp → Prop
noncomputable def PH (X : Cx) (hs : List ExceptHandler) (t : TH) : Prop := ∀ (pins : List (Addr × Obj)) (s : Shared) (σ : St) (H : Hp) (D : Ends) (ea : Addr) (cls : Value) (dx : Option Addr) (T : Addr),
 Inv X pins σ (upd H ea (.ext (exF ea cls dx))) s → ExO s.heap ea cls dx (some T) → H ea = none → t D σ cls dx H → wpAny (model X.prog X.w) X.A (handleBy (.ref ea) X.env hs) (SP X pins D) X.xe s
noncomputable def Ends.un (D : Ends) (i : Nat) : Ends := { nx := fun σ H => D.nx (σ.set i none) H, rt := D.rt, bk := fun σ H => D.bk (σ.set i none) H, ct := fun σ H => D.ct (σ.set i none) H }
noncomputable def tH0 : TH := fun _ _ _ _ _ => False
noncomputable def tHc (K : PySem.W.Frag) (C : Addr) (i : Nat) (th : TS) (tr : TH) : TH := fun D σ cls dx H => hx2 (isx K cls C) (∀ ea, H ea = none → th (D.un i) (σ.set i (some (.ref ea))) (upd H ea (.ext (exF ea cls dx)))) (tr D σ cls dx H)
noncomputable def tTry (tb : St → XK → TS) (th : TH) : TS := fun D σ H => tb σ (fun cls dx H' => th D σ cls dx H') D σ H
section
variable {X : Cx}
theorem ph_nil : PH X [] tH0 := fun _ _ _ _ _ _ _ _ _ _ _ _ h => h.elim
theorem ph_cons {K : PySem.W.Frag} {x n : Str} {C : Addr} {i : Nat} {np pos : Pos} {b₀ : Stmt} {body : List Stmt} {rest : List ExceptHandler} {th : TS} {tr : TH} (hK : X.K = K) (m : XmAt X.K X.mg x C) (hg : Gl X x) (hN : X.N.Nodup) (hi : X.N[i]? = some n) (hk : X.env.scope.names.lookup n = some .local)
  (hs : ∀ e, PSs (X.hand e) (b₀ :: body) th) (hr : PH X rest tr) (hdb : (x == ("__debug__" : Str)) = false := by decide) : PH X (.ExceptHandler (some (.Name x np)) (some n) (b₀ :: body) pos :: rest) (tHc K C i th tr) := by
 subst hK
 intro pins s σ H D ea cls dx T I hx hH h
 have ok := I.ok
 have Ih : Inv (X.hand (.ref ea)) pins σ (upd H ea (.ext (exF ea cls dx))) s := I.hand
 obtain ⟨oe, vs, he, hc, _⟩ := id hx
 refine wpAny_handleBy_cons (codeAny_handlers_test (ld_glob (X := X.hand (.ref ea)) Ih hg m.mgC ?_ hdb)) (by intro q; cases q)
 unfold tHc at h
 cases hb : isx X.K cls C with
 | none => rw [hb] at h; exact h.elim
 | some b =>
  rw [hb] at h
  refine xmatch I.kIn he m (by rw [hc]; exact hb) ?_
  cases b with
  | false => exact hr pins s σ H D ea cls dx T I hx hH h
  | true =>
   refine codeAny_handlers_suite_as (flight_x hx (store_ok (X := X.hand (.ref ea)) (v := .ref ea) Ih hN hi (.inl hk) rfl (fun s1 I1 => ?_) (.inr hk)))
   refine wpAny_mono (hs (.ref ea) pins s1 _ _ _ I1 (h ea hH)) (fun f s2 q => ?_) fun _ _ z => z.elim
   cases f with
   | next => obtain ⟨σ', H', I', q⟩ := q; exact unbind_ok (I'.unhand ok) hN hi hk fun s' I2 => ⟨_, H', I2, q⟩
   | brk => obtain ⟨σ', H', I', q⟩ := q; exact unbind_ok (I'.unhand ok) hN hi hk fun s' I2 => ⟨_, H', I2, q⟩
   | cont => obtain ⟨σ', H', I', q⟩ := q; exact unbind_ok (I'.unhand ok) hN hi hk fun s' I2 => ⟨_, H', I2, q⟩
   | ret u => obtain ⟨v, σ', H', I', r, q⟩ := q; exact unbind_ok (I'.unhand ok) hN hi hk fun s' I2 => ⟨v, _, H', I2, r, q⟩
theorem ps_try {body : List Stmt} {h₀ : ExceptHandler} {hs : List ExceptHandler} {pos : Pos} {tb : St → XK → TS} {th : TH} (hb : ∀ pn σ E, PSs (X.tryC pn σ E) body (tb σ E)) (hh : PH X (h₀ :: hs) th)
  (hst : X.stack = X.env :: X.outer := by rfl) (hf : X.env.frame = some X.env.locals := by rfl) : PS X (.Try body (h₀ :: hs) [] [] pos) (tTry tb th) := by
 intro pins s σ H D I h
 refine wpAny_Try_except (wpAny_mono (hb pins σ _ [] s σ H D I.tryC h) (fun f s1 q => ?_) fun e s1 q => ?_)
 ·have q' := q.untry
  cases f with
  | next => exact wpAny_execs_nil q'
  | brk => exact q'
  | cont => exact q'
  | ret u => exact q'
 ·obtain ⟨ea, cls, dx, tb, H', rfl, F, hE⟩ := q
  have Ok := F.inv.ok
  have fr : X.A.frames = some (X.env :: X.outer) := by rw [← hst]; exact Ok.frames
  have fl : s1.heap.FunFrames X.base (X.env :: X.outer) := by rw [← hst]; exact F.inv.stack
  refine note_x fr fl hf F.ex fun h' hx hk => ?_
  rw [← hst] at hk
  exact hh pins _ σ H' D ea cls dx _ (F.land hk hx) hx F.nH hE
end
end L2
set_option maxRecDepth 100000
set_option maxHeartbeats 1000000
namespace L2
open PySem PySem.Spec PyProof.Rows
structure XgAt (K : PySem.W.Frag) (C : Addr) : Prop where
 ga : PySem.W.findIn K (.ref C) "__getattribute__" = some (some (.builtin "BaseException.__getattribute__"))
 gh : PySem.W.findIn K (.ref C) "__getattr__" = some none
 bx : PySem.W.mroIn K C (.type "BaseException") = some true
 ob : PySem.W.mroIn K C (.type "object") = some true
 hd : PySem.W.hasDictIn K C = true
 kc : PySem.W.findIn K (.ref C) "__class__" = some (some (.builtin "object.__class__"))
 kg : PySem.W.specialIn K (.builtin "object.__class__") "__get__" = some (some (.builtin "getset_descriptor.__get__"))
 kt : PySem.W.takesIn K (.builtin "object.__class__") = some true
section
variable {prog : Program} {w : World} {A : Around} {s : Shared} {K : PySem.W.Frag} {x C : Addr} {ox : Obj} {od : Option Obj} {name : Str}
theorem getx_by {E : Value → Shared → Prop} {tk : Tok} {fill expr : Bool} {Q : Value → Shared → Prop} (X : K.In s.heap) (I : PySem.W.InstAt s.heap x ox C od) (g : XgAt K C)
  (h : ∀ A', wpAny (model prog w) A' (Builtin.«object.__getattribute__» ⟨[.ref x, .str name tk], []⟩) (fun fin s' => match fin with | .done (.ret v) => wpAny (model prog w) A (handedOut v) Q E s' | _ => False) (fun _ _ => False) s) :
  wpAny (model prog w) A (getAttrBy (.ref x) (.str name tk) fill expr) Q E s := by
 have L0 := I.type (M := model prog w)
 have L1 := PySem.W.looks_findIn (M := model prog w) X g.ga
 have L2 := PySem.W.looks_findIn (M := model prog w) X g.gh
 have FX := PySem.F.excAttr_ValueError
 have sub : PySem.W.Looks (model prog w) s.heap (isInstance (.ref x) (.type "BaseException")) true := I.type.andThen (PySem.W.looks_mroIn X g.bx)
 have hx0 : (expr && onTheHeap (Value.builtin "BaseException.__getattribute__")) = false := by cases expr <;> rfl
 have hx2 : (Value.builtin "BaseException.__getattribute__" == Value.builtin "object.__getattribute__") = false := by decide +kernel
 unfold getAttrBy
 refine wpAny_holding (wpAny_bind (L0.here (wpAny_bind (L1.here ?_))))
 dsimp only
 rw [if_neg (by rw [hx2]; simp)]
 unfold getAttrByItsOwn hookBefore
 rw [if_pos (show onTheHeap (Value.ref C) = true from rfl)]
 refine wpAny_bind (L2.here ?_)
 refine wpAny_bind (wpAny_attempt (wpAny_holding ?_))
 unfold callGetattribute
 rw [hx0, if_neg (by decide)]
 unfold boundAndCalled
 rw [FX.ga.bind (.ref x)]
 refine wpAny_bind (wpAny_pure ?_)
 refine wpAny_call (codeAny_call_builtin FX.ga.plain PySem.F.entry_bexc_ga ?_)
 refine @PySem.W.check_slot (model prog w) _ _ s "BaseException.__getattribute__" "BaseException" "__getattribute__" (.ref x) [.str name tk] [] _ (by decide +kernel) (by decide +kernel) sub (PySem.F.args_bexc_ga (.ref x) (.str name tk)) ?_
 refine wpAny_mono (h _) (fun fin s' z => ?_) fun _ _ z => z.elim
 rcases fin with (_ | _ | _ | _) | _ <;> first | exact z | exact z.elim
theorem getx_value {E : Value → Shared → Prop} {expr : Bool} {v : Value} {Q : Value → Shared → Prop} (X : K.In s.heap) (I : PySem.W.InstAt s.heap x ox C od) (g : XgAt K C)
  (hf : PySem.W.findObj K C od name = some (.value v)) (hh : PySem.W.handedIn v = true) (h : Q v { s with toks := s.toks + 1 }) : wpAny (model prog w) A (getAttr (.ref x) name expr) Q E s := by
 obtain ⟨hp, gs, d, t, os⟩ := s
 unfold getAttr
 refine wpAny_bind (wpAny_mkText (getx_by (s := ⟨hp, gs, d, t + 1, os⟩) X I g fun A' => ?_))
 have L0 := I.type (M := model prog w)
 have L1 := PySem.W.looks_find (M := model prog w) X I hf
 unfold Builtin.«object.__getattribute__»
 refine wpAny_bind (wpAny_pure (wpAny_bind (wpAny_pure (wpAny_bind (L0.at (wpAny_bind (L1.at ?_)))))))
 refine wpAny_pure ?_
 show wpAny _ _ (handedOut v) _ _ _
 rw [PySem.W.handedOut_of hh]; exact wpAny_pure h
theorem getx_class {E : Value → Shared → Prop} {Q : Option Value → Shared → Prop} (X : K.In s.heap) (I : PySem.W.InstAt s.heap x ox C od) (g : XgAt K C) (h : Q (some (.ref C)) { s with toks := s.toks + 1 }) :
  wpAny (model prog w) A (getAttr? (.ref x) "__class__") Q E s := by
 have hf : PySem.W.findObj K C od "__class__" = some (.bind (.builtin "getset_descriptor.__get__") (.builtin "object.__class__")) := by
  obtain ⟨cd, hc, _⟩ := PySem.W.any_some g.hd
  unfold PySem.W.findObj
  rw [hc, Option.bind_some, g.kc, Option.bind_some]
  simp [g.kg, g.kt]
 obtain ⟨hp, gs, d, t, os⟩ := s
 unfold getAttr? getAttrBy?
 refine wpAny_bind (wpAny_mkText (wpAny_bind (wpAny_attempt (getx_by (s := ⟨hp, gs, d, t + 1, os⟩) X I g fun A' => ?_))))
 have L0 := I.type (M := model prog w)
 have L1 := PySem.W.looks_find (M := model prog w) X I hf
 unfold Builtin.«object.__getattribute__»
 refine wpAny_bind (wpAny_pure (wpAny_bind (wpAny_pure (wpAny_bind (L0.at (wpAny_bind (L1.at ?_)))))))
 refine wpAny_bind (wpAny_holding (wpAny_call (PySem.W.class_get (s := ⟨hp, gs, d, t + 1, os⟩) (ox := ox) (od := od) X I g.ob ?_)))
 exact wpAny_pure (PySem.W.handed_on rfl (wpAny_pure h))
end
theorem kitx_x {K : PySem.W.Frag} {x D : Addr} (g : XgAt K D) : PySem.W.KitX K (.ref x) (.ref D) (fun h => ∃ ox od, PySem.W.InstAt h x ox D od) where
 ty := fun _ _ _ ⟨_, _, I⟩ => I.type
 it := fun _ _ X _ => by
  obtain ⟨cdD, hcD, _⟩ := PySem.W.any_some g.hd
  unfold PySem.W.clsIn at hcD
  split at hcD
  ·rename_i c' d' cd' sl' ho
   intro A' Q' E' s' k q
   unfold isType loadHead
   exact wpAny_bind (wpAny_loadPart (k _ _ (X _ _ ho)) (wpAny_pure q))
  ·cases hcD
 ne := fun h tp dd its n sl X htp => by
  obtain ⟨cdD, hcD, _⟩ := PySem.W.any_some g.hd
  refine Bool.eq_false_iff.mpr fun q => ?_
  have e : D = tp := Value.ref.inj (beq_iff_eq.mp q)
  subst e
  unfold PySem.W.clsIn at hcD
  split at hcD
  ·rename_i c' d' cd' sl' ho
   have z := (X _ _ ho).symm.trans htp
   cases z
  ·cases hcD
 ca := fun X I k => by obtain ⟨ox, od, I⟩ := I; exact getx_class X I g k
theorem exF_inj {a : Addr} {c c' : Value} {d d' : Option Addr} (e : exF a c d = exF a c' d') : c = c' ∧ d = d' := by
 have h1 : exF a c d { objs := Array.replicate (a + 1) ⟨c, d, .fields #[], #[]⟩ } := ⟨⟨c, d, .fields #[], #[]⟩, #[], by unfold Heap.get?; simp, rfl, rfl, rfl⟩
 rw [e] at h1
 obtain ⟨oe, vs, e1, e2, e3, _⟩ := h1
 have e0 : Heap.get? { objs := Array.replicate (a + 1) ⟨c, d, .fields #[], #[]⟩ } a = some ⟨c, d, .fields #[], #[]⟩ := by unfold Heap.get?; simp
 rw [e0] at e1
 cases e1
 exact ⟨e2, e3⟩
theorem ex_exf {a : Addr} {c : Value} {d : Addr} {N : Addr → Prop} : (∃ dx, some (HO.ext (exF a c (some d))) = some (HO.ext (exF a c (some dx))) ∧ N dx) = N d := by
 apply propext; constructor
 ·rintro ⟨dx, e, h⟩
  have e1 := Option.some.inj e
  injection e1 with e2
  obtain ⟨_, e3⟩ := exF_inj e2
  cases e3
  exact h
 ·exact fun h => ⟨d, rfl, h⟩
theorem ex_exc {a : Addr} {C : Addr} {d : Option Addr} {N : Addr → Option Addr → Prop} : (∃ D dx, some (HO.ext (exF a (.ref C) d)) = some (HO.ext (exF a (.ref D) dx)) ∧ N D dx) = N C d := by
 apply propext; constructor
 ·rintro ⟨D, dx, e, h⟩
  have e1 := Option.some.inj e
  injection e1 with e2
  obtain ⟨e3, e4⟩ := exF_inj e2
  cases e3; cases e4
  exact h
 ·exact fun h => ⟨C, d, rfl, h⟩
theorem ex_xd {l : List (Str × V)} {N : List (Str × V) → Prop} : (∃ fs, some (HO.xd l) = some (HO.xd fs) ∧ N fs) = N l := by
 apply propext; constructor
 ·rintro ⟨fs, e, h⟩; cases e; exact h
 ·exact fun h => ⟨l, rfl, h⟩
noncomputable def rFldX (C : Addr) (f : Str) (x : V) (H : Hp) (Q : VK) : Prop := ∃ a, x = .ref a ∧ ∃ dx, H a = some (.ext (exF a (.ref C) (some dx))) ∧ ∃ fs, H dx = some (.xd fs) ∧ ∃ v, fs.lookup f = some v ∧ Q v H
noncomputable def tFldX (C : Addr) (f : Str) (ta : TE) : TE := fun σ H Q => ta σ H fun x H1 => rFldX C f x H1 Q
theorem rFldX_ref {C a : Addr} {f : Str} {H : Hp} {Q : VK} : rFldX C f (.ref a) H Q = ∃ dx, H a = some (.ext (exF a (.ref C) (some dx))) ∧ ∃ fs, H dx = some (.xd fs) ∧ ∃ v, fs.lookup f = some v ∧ Q v H := by
 apply propext; unfold rFldX; constructor
 ·rintro ⟨b, e, h⟩; cases e; exact h
 ·exact fun h => ⟨a, rfl, h⟩
noncomputable def isbO (o : Option Bool) (N : Bool → Prop) : Prop := match o with
 | some b => N b
 | none => False
theorem isbO_some {b : Bool} {N : Bool → Prop} : isbO (some b) N = N b := rfl
noncomputable def xdOk (H : Hp) : Option Addr → Prop
 | none => True
 | some d => ∃ fs, H d = some (.xd fs)
theorem xdOk_n {H : Hp} : xdOk H none = True := rfl
theorem xdOk_s {H : Hp} {d : Addr} : xdOk H (some d) = ∃ fs, H d = some (.xd fs) := rfl
theorem ex_xd1 {l : List (Str × V)} : (∃ fs, some (HO.xd l) = some (HO.xd fs)) = True := eq_true ⟨l, rfl⟩
noncomputable def rIsiX (K : PySem.W.Frag) : List V → Hp → VK → Prop := fun xs H Q => match xs with
 | [.ref p, .ref C] => ∃ D dx, H p = some (.ext (exF p (.ref D) dx)) ∧ XgAt K D ∧ xdOk H dx ∧ isbO (PySem.W.kitOne K (.ref D) (.ref C)) fun b => Q (.bl b) H
 | [.ref p, .ty n] => ∃ D dx, H p = some (.ext (exF p (.ref D) dx)) ∧ XgAt K D ∧ xdOk H dx ∧ isbO (PySem.W.kitOne K (.ref D) (.type n)) fun b => Q (.bl b) H
 | _ => False
theorem rIsiX_ref {K : PySem.W.Frag} {p C : Addr} {H : Hp} {Q : VK} : rIsiX K [.ref p, .ref C] H Q = ∃ D dx, H p = some (.ext (exF p (.ref D) dx)) ∧ XgAt K D ∧ xdOk H dx ∧ isbO (PySem.W.kitOne K (.ref D) (.ref C)) fun b => Q (.bl b) H := rfl
theorem rIsiX_ty {K : PySem.W.Frag} {p : Addr} {n : String} {H : Hp} {Q : VK} : rIsiX K [.ref p, .ty n] H Q = ∃ D dx, H p = some (.ext (exF p (.ref D) dx)) ∧ XgAt K D ∧ xdOk H dx ∧ isbO (PySem.W.kitOne K (.ref D) (.type n)) fun b => Q (.bl b) H := rfl
section
variable {X : Cx} {e : Expr} {f x : Str} {C : Addr} {ta : TE} {pos : Pos}
theorem Inv.inst {pins : List (Addr × Obj)} {σ : St} {H : Hp} {s : Shared} {p D : Addr} {dx : Option Addr} (I : Inv X pins σ H s) (h : H p = some (.ext (exF p (.ref D) dx))) (hd : ∀ d, dx = some d → ∃ o, s.heap.get? d = some o) :
  ∃ ox od, PySem.W.InstAt s.heap p ox D od ∧ ∀ d, dx = some d → s.heap.get? d = od := by
 obtain ⟨⟨oe, vs, he, hc, hdx, hdt⟩, _⟩ := (show ObjOk X.prog X.w H s.heap p (.ext (exF p (.ref D) dx)) from I.hok p _ h)
 cases dx with
 | none => exact ⟨oe, none, ⟨he, hc, by unfold PySem.W.notCls; rw [hdt], by rw [hdx]; trivial⟩, fun d z => by cases z⟩
 | some d =>
  obtain ⟨o, ho⟩ := hd d rfl
  exact ⟨oe, some o, ⟨he, hc, by unfold PySem.W.notCls; rw [hdt], by rw [hdx]; exact ho⟩, fun d' z => by cases z; exact ho⟩
theorem pe_getX (he : PE X e ta) (g : XgAt X.K C) (m : XfAt X.K C f) (hb : attributeBase e f X.env (eval e X.env) = eval e X.env) : PE X (.Attribute e f pos) (tFldX C f ta) := by
 intro pins s σ H Q I h
 refine attr_of hb (thn (he pins s σ H _ I h) fun u s1 ⟨x, H1, I1, rx, a, ex, dx, ea, fs, ed, v, l, q⟩ => ?_)
 subst ex
 obtain rfl : u = Value.ref a := rx
 obtain ⟨mA, hn, hr⟩ := (show ObjOk X.prog X.w H1 s1.heap dx (.xd fs) from I1.hok dx _ ed)
 obtain ⟨o, ho, hl⟩ := lookIn_ns hn
 obtain ⟨ox, od, J, hj⟩ := I1.inst ea (fun d z => by cases z; exact ⟨o, ho⟩)
 have ej := hj dx rfl
 rw [ho] at ej
 subst ej
 obtain ⟨u, hu, ru⟩ := RelO.some_of (v := v) (o := mA f) (by rw [← l]; exact hr f)
 exact getx_value I1.kIn J g (PySem.W.findObj_own g.hd m.no rfl (by rw [hl, hu])) (handed_of ru) ⟨v, H1, I1.tok _, ru, q⟩
theorem call_isiX (K : PySem.W.Frag) (hK : X.K = K) : CallR X (.builtin "isinstance") (rIsiX K) := by
 subst hK
 intro pins s σ H xs us Q I rs q
 unfold rIsiX at q
 have key : ∀ {p D : Addr} {dx : Option Addr} {c : Value} {b : Bool}, H p = some (.ext (exF p (.ref D) dx)) → XgAt X.K D → xdOk H dx → PySem.W.kitOne X.K (.ref D) c = some b → Q (.bl b) H → wpAny (model X.prog X.w) X.A (call (.builtin "isinstance") [.ref p, c]) (EP X pins σ Q) X.xe s := fun {p D dx c b} hp g ok e h => by
  obtain ⟨ox, od, J, _⟩ := I.inst hp (fun d z => by
   subst z
   obtain ⟨fs, ed⟩ := ok
   exact (I.hok d _ ed).there)
  exact PySem.W.kia_one (kitx_x g) I.kIn ⟨ox, od, J⟩ e (fun z => nomatch z) fun tk => ⟨.bl b, H, I.tok tk, rfl, h⟩
 split at q
 ·rename_i p C
  obtain ⟨u, c, rfl, ru, rc⟩ := vals2 rs
  obtain rfl : u = Value.ref p := ru
  obtain rfl : c = Value.ref C := rc
  obtain ⟨D, dx, hp, g, ok, q⟩ := q
  cases e : PySem.W.kitOne X.K (.ref D) (.ref C) with
  | none => rw [e] at q; exact q.elim
  | some b => rw [e] at q; exact key hp g ok e q
 ·rename_i p n
  obtain ⟨u, c, rfl, ru, rc⟩ := vals2 rs
  obtain rfl : u = Value.ref p := ru
  obtain rfl : c = Value.type n := rc
  obtain ⟨D, dx, hp, g, ok, q⟩ := q
  cases e : PySem.W.kitOne X.K (.ref D) (.type n) with
  | none => rw [e] at q; exact q.elim
  | some b => rw [e] at q; exact key hp g ok e q
 ·exact q.elim
theorem pe_cls (m : XmAt X.K X.mg x C) (hg : Gl X x) (hd : (x == ("__debug__" : Str)) = false := by decide) : PE X (.Name x pos) (tC (.ref C)) := pe_glob hg m.mgC rfl hd
end
section
variable {X : Cx} {CX : CXT} {k n : Nat} {C R : Addr} {ps : List Str} {sp : Sp} {E : XK} {x m : Str} {p pos apos : Pos} {e o : Expr} {es : List Expr} {ta : TE} {t : TA} {st : Stmt} {ts : TS}
theorem PS.nox (h : PS X.nox st ts) : PS X st ts := fun pins s σ H D I hw =>
 wpAny_mono (h pins s σ H D (I.wish _) hw) (fun _ _ q => q.unwish) fun _ _ z => False.elim z
noncomputable def XcI (K : PySem.W.Frag) (mg : Str → Option Value) (x : Str) (C R : Addr) : Prop := ∃ ini, XcAt K mg x C R ini
theorem ps_raiseIQ {CX : CXT} [Quiet CX] (c : XcI X.K X.mg x C R) (G : MtAt X.prog X.w X.K X.mg X.base CX C "__init__" k ps sp) (kp : PySem.W.keepIn X.K (.ref C) = true) (hr : Room n X.A) (hk : k + 1 ≤ n) (hz : Rz X E) (hc : X.calm = true) (hex : X.ex = []) (hg : Gl X x) (ha : PA X (e :: es) t)
  (hdb : (x == ("__debug__" : Str)) = false := by decide) (h : (e :: es).any isStar = false := by rfl) (hlen : ∀ us : List Value, us.length + 1 = ps.length → us.length ≤ sizeLine := by intro us h; simp at h; rw [sizeLine_eq]; omega) :
  PS X (.Raise (some (.Call (.Name x p) (e :: es) [] apos)) none pos) (tRaiseI C sp E t) := by
 obtain ⟨ini, c⟩ := c
 rw [List.any_cons, Bool.or_eq_false_iff] at h
 exact ps_raiseI c G kp (hr.mono hk) hz hc hex hg ha hdb (starEach_of h.1) (noStars h.2) hlen
theorem ps_fldXQ {value : Expr} {f : Str} {pos' : Pos} {tv : TE} (c : XcI X.K X.mg x C R) (m : XfAt X.K C f) (ha : PE X o ta) (hv : PE X value tv) (hs : isComp value = false := by rfl) : PS X (.Assign [.Attribute o f pos'] value pos) (sFldX C ta tv f) := by
 obtain ⟨ini, c⟩ := c
 exact ps_fldX c m ha hv hs
end
theorem MethAt.fnX {P : Program} {w : World} {K : PySem.W.Frag} {mg : Str → Option Value} {base : Heap} {CX : CXT} {C : Addr} {m q : Str} {st : Stmt} {N ps : List Str} {k : Nat} {sp : Sp} (F : MethAt K C m q st) (S : FnScope N ps (defScope st))
  (hb : ∀ (kV doc pm : Value) (an : Option Addr) (cdv ct : Value) (us : List Value), us.length = ps.length → bindArgs (PySem.W.fnOf m q (defArgs st) (defBody st) (defScope st) .none kV doc pm an cdv ct) ⟨us, []⟩ = pure (ps.zip us))
  (len : ∀ vs H Q E, sp vs H Q E → vs.length = ps.length)
  (hbody : ∀ (f : Addr) (cdv : Value) (A : Around) (outer : List Env) (s : Shared) (H : Hp) (vs : List V) (Q : VK) (E : XK), Room k (A.deeper (envOfC q (defScope st) s.heap.objs.size f cdv)) → sp vs H Q E →
   ∃ t, PSs (cxOf CX P w K mg base N q (defScope st) f cdv A outer s H E) (defBody st) t ∧ t { nx := fun _ H' => Q .non H', rt := Q } (start N vs) H) : MtAt P w K mg base CX C m (k + 1) ps sp := by
 obtain ⟨f, fd, F, hm⟩ := F
 have bd := F.binds hb
 obtain ⟨oc, od, kV, doc, pm, an, cdv, ct, osl, rfl, lk, hcd⟩ := F.ex
 exact ⟨f, _, fn_of lk hcd S len fun A outer s H vs Q E hr hsp => hbody f cdv A outer s H vs Q E hr hsp, hm, bd⟩
theorem xgat_mk {K : PySem.W.Frag} {C : Addr} (ga : PySem.W.findIn K (.ref C) "__getattribute__" = some (some (.builtin "BaseException.__getattribute__"))) (gh : PySem.W.findIn K (.ref C) "__getattr__" = some none) (bx : PySem.W.mroIn K C (.type "BaseException") = some true)
  (ob : PySem.W.mroIn K C (.type "object") = some true) (hd : PySem.W.hasDictIn K C = true) (kc : PySem.W.findIn K (.ref C) "__class__" = some (some (.builtin "object.__class__"))) (kg : PySem.W.specialIn K (.builtin "object.__class__") "__get__" = some (some (.builtin "getset_descriptor.__get__")))
  (kt : PySem.W.takesIn K (.builtin "object.__class__") = some true) : XgAt K C := ⟨ga, gh, bx, ob, hd, kc, kg, kt⟩
theorem xmat_mk {K : PySem.W.Frag} {h : Heap} {mg : Str → Option Value} {x : Str} {C : Addr} (X : K.In h) (G : h.Ns mainGlobals mg) (a : PySem.W.nsIn K mainGlobals x = some (some (.ref C))) (t : PySem.W.typeIn K (.ref C) = some (.type "type")) (b : PySem.W.mroIn K C (.type "BaseException") = some true) : XmAt K mg x C :=
 ⟨PySem.W.mg_of X G a, t, b⟩
end L2
set_option maxRecDepth 100000
set_option maxHeartbeats 1000000
namespace L2
open PySem PySem.Spec PyProof.Rows
noncomputable def Dn (K : PySem.W.Frag) (H : Hp) : Nat → V → Dt → Prop
 | 0, x, d => (x = .non ∧ d = .non) ∨ (∃ i, x = .int i ∧ d = .int i) ∨ (∃ z, x = .str z ∧ d = .str z) ∨ (∃ b, x = .bl b ∧ d = .int (if b then 1 else 0))
 | n + 1, x, d => Dn K H n x d ∨ (∃ a xs ds, x = .ref a ∧ d = .l ds ∧ SqL K H a xs ∧ Paired (Dn K H n) xs ds) ∨ (∃ a xs ds, x = .ref a ∧ d = .t ds ∧ SqT K H a xs ∧ Paired (Dn K H n) xs ds)
section
variable {X : Cx} {pins : List (Addr × Obj)} {σ : St} {H : Hp} {s : Shared}
open Classical in
theorem decD_int {i j : Int} : decide (Dt.int i = Dt.int j) = (i == j) := by
 rw [Bool.eq_iff_iff, decide_eq_true_eq, beq_iff_eq]
 exact ⟨fun q => Dt.int.inj q, fun q => by rw [q]⟩
theorem bl_eq (a b : Bool) : ((if a then (1 : Int) else 0) == (if b then 1 else 0)) = (a == b) := by cases a <;> cases b <;> rfl
open Classical in
theorem dn_scal {A : Around} {x y : V} {u v : Value} {d e : Dt} (rx : RelV x u) (ry : RelV y v) (hx : Dn X.K H 0 x d) (hy : Dn X.K H 0 y e) : SeqAt.EqAt A s u v (decide (d = e)) := by
 rcases hx with ⟨rfl, rfl⟩ | ⟨i, rfl, rfl⟩ | ⟨i, rfl, rfl⟩ | ⟨i, rfl, rfl⟩ <;> rcases hy with ⟨rfl, rfl⟩ | ⟨j, rfl, rfl⟩ | ⟨j, rfl, rfl⟩ | ⟨j, rfl, rfl⟩
 ·cases rx; cases ry; rw [decide_eq_true rfl]; exact SeqAt.EqAt.same _
 ·cases rx; obtain ⟨t, rfl⟩ := ry; rw [decide_eq_false (fun z => nomatch z)]; exact SeqAt.EqAt.none_int _ _
 ·cases rx; obtain ⟨t, rfl⟩ := ry; rw [decide_eq_false (fun z => nomatch z)]; exact SeqAt.EqAt.none_str _ _
 ·cases rx; cases ry; rw [decide_eq_false (fun z => nomatch z)]; exact SeqAt.EqAt.none_bool _
 ·obtain ⟨t, rfl⟩ := rx; cases ry; rw [decide_eq_false (fun z => nomatch z)]; exact SeqAt.EqAt.int_none _ _
 ·obtain ⟨t, rfl⟩ := rx; obtain ⟨t', rfl⟩ := ry; rw [decD_int]; exact SeqAt.EqAt.int_int _ _ _ _
 ·obtain ⟨t, rfl⟩ := rx; obtain ⟨t', rfl⟩ := ry; rw [decide_eq_false (fun z => nomatch z)]; exact SeqAt.EqAt.int_str _ _ _ _
 ·obtain ⟨t, rfl⟩ := rx; cases ry; rw [decD_int]; exact SeqAt.EqAt.int_bool _ _ _
 ·obtain ⟨t, rfl⟩ := rx; cases ry; rw [decide_eq_false (fun z => nomatch z)]; exact SeqAt.EqAt.str_none _ _
 ·obtain ⟨t, rfl⟩ := rx; obtain ⟨t', rfl⟩ := ry; rw [decide_eq_false (fun z => nomatch z)]; exact SeqAt.EqAt.str_int _ _ _ _
 ·obtain ⟨t, rfl⟩ := rx; obtain ⟨t', rfl⟩ := ry
  have e : decide (Dt.str i = Dt.str j) = (i == j) := by
   rw [Bool.eq_iff_iff, decide_eq_true_eq, beq_iff_eq]
   exact ⟨fun q => Dt.str.inj q, fun q => by rw [q]⟩
  rw [e]; exact SeqAt.EqAt.str_str _ _ _ _
 ·obtain ⟨t, rfl⟩ := rx; cases ry; rw [decide_eq_false (fun z => nomatch z)]; exact SeqAt.EqAt.str_bool _ _ _
 ·cases rx; cases ry; rw [decide_eq_false (fun z => nomatch z)]; exact SeqAt.EqAt.bool_none _
 ·cases rx; obtain ⟨t, rfl⟩ := ry; rw [decD_int]; exact SeqAt.EqAt.bool_int _ _ _
 ·cases rx; obtain ⟨t, rfl⟩ := ry; rw [decide_eq_false (fun z => nomatch z)]; exact SeqAt.EqAt.bool_str _ _ _
 ·cases rx; cases ry; rw [decD_int, bl_eq]; exact SeqAt.EqAt.bool_bool _ _
theorem Dn.cases {K : PySem.W.Frag} {H : Hp} : ∀ {n : Nat} {x : V} {d : Dt}, Dn K H n x d → Dn K H 0 x d ∨ (∃ m, m < n ∧ ∃ a xs ds, x = .ref a ∧ d = .l ds ∧ SqL K H a xs ∧ Paired (Dn K H m) xs ds) ∨ (∃ m, m < n ∧ ∃ a xs ds, x = .ref a ∧ d = .t ds ∧ SqT K H a xs ∧ Paired (Dn K H m) xs ds)
 | 0, _, _, h => .inl h
 | n + 1, _, _, h => by
  rcases h with h | h | h
  ·rcases Dn.cases h with q | ⟨m, hm, q⟩ | ⟨m, hm, q⟩
   ·exact .inl q
   ·exact .inr (.inl ⟨m, by omega, q⟩)
   ·exact .inr (.inr ⟨m, by omega, q⟩)
  ·exact .inr (.inl ⟨n, by omega, h⟩)
  ·exact .inr (.inr ⟨n, by omega, h⟩)
theorem Dn.up {K : PySem.W.Frag} {H : Hp} {n m : Nat} {x : V} {d : Dt} (h : Dn K H n x d) (hm : n ≤ m) : Dn K H m x d := by
  induction m with
  | zero => have : n = 0 := by omega
            subst this; exact h
  | succ m ih =>
    by_cases e : n = m + 1
    · subst e; exact h
    · exact .inl (ih (by omega))
theorem dn_det (n : Nat) : ∀ {m : Nat} {x : V} {d e : Dt}, Inv X pins σ H s → Dn X.K H n x d → Dn X.K H m x e → d = e := by
 induction n using Nat.strongRecOn with
 | _ n ih =>
 intro m x d e I hx hy
 rcases hx.cases with hx | ⟨m1, hm, a, xs, ds, rfl, rfl, ha, pa⟩ | ⟨m1, hm, a, xs, ds, rfl, rfl, ha, pa⟩
 ·rcases hy.cases with hy | ⟨k, hk, b, ys, es, rfl, rfl, hb, pb⟩ | ⟨k, hk, b, ys, es, rfl, rfl, hb, pb⟩
  ·rcases hx with ⟨rfl, rfl⟩ | ⟨i, rfl, rfl⟩ | ⟨i, rfl, rfl⟩ | ⟨i, rfl, rfl⟩ <;> rcases hy with ⟨z, rfl⟩ | ⟨j, z, rfl⟩ | ⟨j, z, rfl⟩ | ⟨j, z, rfl⟩ <;> first | rfl | (cases z; rfl) | cases z
  ·rcases hx with ⟨z, _⟩ | ⟨i, z, _⟩ | ⟨i, z, _⟩ | ⟨i, z, _⟩ <;> cases z
  ·rcases hx with ⟨z, _⟩ | ⟨i, z, _⟩ | ⟨i, z, _⟩ | ⟨i, z, _⟩ <;> cases z
 ·rcases hy.cases with hy | ⟨k, hk, b, ys, es, e1, rfl, hb, pb⟩ | ⟨k, hk, b, ys, es, e1, rfl, hb, pb⟩
  ·rcases hy with ⟨z, _⟩ | ⟨i, z, _⟩ | ⟨i, z, _⟩ | ⟨i, z, _⟩ <;> cases z
  ·cases e1
   have := I.list_inj ha hb
   subst this
   rw [paired_det pa pb fun x d e h1 h2 => ih m1 hm I h1 h2]
  ·cases e1
   exact (list_not_tuple I ha hb).elim
 ·rcases hy.cases with hy | ⟨k, hk, b, ys, es, e1, rfl, hb, pb⟩ | ⟨k, hk, b, ys, es, e1, rfl, hb, pb⟩
  ·rcases hy with ⟨z, _⟩ | ⟨i, z, _⟩ | ⟨i, z, _⟩ | ⟨i, z, _⟩ <;> cases z
  ·cases e1
   exact (list_not_tuple I hb ha).elim
  ·cases e1
   have := I.tuple_inj ha hb
   subst this
   rw [paired_det pa pb fun x d e h1 h2 => ih m1 hm I h1 h2]
open Classical in
theorem dn_items {n : Nat} {A : Around} {xs ys : List V} {its its2 : List Value} {ds es : List Dt} {m k : Nat} (r1 : Vals xs its) (r2 : Vals ys its2) (pa : Paired (Dn X.K H m) xs ds) (pb : Paired (Dn X.K H k) ys es)
  (ih : ∀ x y u v d e, RelV x u → RelV y v → Dn X.K H m x d → Dn X.K H k y e → SeqAt.EqAt A s u v (decide (d = e))) :
  ∀ j (h1 : j < its.toArray.size) (h2 : j < its2.toArray.size), SeqAt.EqAt A s its.toArray[j] its2.toArray[j] (decide (ds[j]? = es[j]?)) := by
 intro j h1 h2
 have h1' : j < its.length := by simpa using h1
 have h2' : j < its2.length := by simpa using h2
 have l1 := r1.length
 have l2 := r2.length
 have x1 : xs[j]? = some xs[j] := by simp
 have y1 : ys[j]? = some ys[j] := by simp
 obtain ⟨d', hd', pd⟩ := Paired.get pa x1
 obtain ⟨e', he', pe⟩ := Paired.get pb y1
 obtain ⟨u', hu1, ru⟩ := r1.get x1
 obtain ⟨v', hv1, rv⟩ := r2.get y1
 have e1 : its.toArray[j] = u' := by
  have : its[j]? = some its[j] := by simp
  rw [hu1] at this
  simpa using (Option.some.inj this).symm
 have e2 : its2.toArray[j] = v' := by
  have : its2[j]? = some its2[j] := by simp
  rw [hv1] at this
  simpa using (Option.some.inj this).symm
 have e3 : decide (ds[j]? = es[j]?) = decide (d' = e') := by
  rw [hd', he', Bool.eq_iff_iff, decide_eq_true_eq, decide_eq_true_eq]
  exact ⟨fun q => Option.some.inj q, fun q => by rw [q]⟩
 rw [e1, e2, e3]
 exact ih _ _ _ _ _ _ ru rv pd pe
open Classical in
theorem dn_rc (n : Nat) : ∀ {A : Around} {x y : V} {u v : Value} {d e : Dt}, Inv X pins σ H s → A.units + n < cLine → RelV x u → RelV y v → Dn X.K H n x d → Dn X.K H n y e → SeqAt.EqAt A s u v (decide (d = e)) ∧ ∀ a b, x = .ref a → y = .ref b → SeqAt.RcAt A s (.ref a) (.ref b) (decide (d = e)) := by
 induction n using Nat.strongRecOn with
 | _ n ih =>
 intro A x y u v d e I hu rx ry hx hy
 have lift : ∀ {a b : Addr}, x = .ref a → y = .ref b → SeqAt.RcAt A s (.ref a) (.ref b) (decide (d = e)) → SeqAt.EqAt A s (.ref a) (.ref b) (decide (d = e)) := fun {a b} ea eb q => by
  by_cases hab : a = b
  ·subst hab
   subst ea
   subst eb
   rw [decide_eq_true (dn_det n I hx hy)]
   exact SeqAt.EqAt.same _
  ·exact SeqAt.EqAt.of_refs hab q
 have hu' : A.units < cLine := by omega
 rcases hx.cases with hx' | ⟨m, hm, a, xs, ds, rfl, rfl, ha, pa⟩ | ⟨m, hm, a, xs, ds, rfl, rfl, ha, pa⟩
 ·rcases hy.cases with hy' | ⟨k, hk, b, ys, es, rfl, rfl, hb, pb⟩ | ⟨k, hk, b, ys, es, rfl, rfl, hb, pb⟩
  ·refine ⟨dn_scal rx ry hx' hy', fun a b e1 e2 => ?_⟩
   subst e1
   rcases hx' with ⟨z, _⟩ | ⟨i, z, _⟩ | ⟨i, z, _⟩ | ⟨i, z, _⟩ <;> cases z
  ·cases ry
   obtain ⟨its, _, p, _⟩ := I.list hb
   rcases hx' with ⟨rfl, rfl⟩ | ⟨i, rfl, rfl⟩ | ⟨i, rfl, rfl⟩ | ⟨i, rfl, rfl⟩
   ·cases rx; rw [decide_eq_false (fun z => nomatch z)]; exact ⟨SeqAt.EqAt.none_list p.isList hu', fun a b z => nomatch z⟩
   ·obtain ⟨t, rfl⟩ := rx; rw [decide_eq_false (fun z => nomatch z)]; exact ⟨SeqAt.EqAt.int_list _ _ p.isList hu', fun a b z => nomatch z⟩
   ·obtain ⟨t, rfl⟩ := rx; rw [decide_eq_false (fun z => nomatch z)]; exact ⟨SeqAt.EqAt.str_list _ _ p.isList hu', fun a b z => nomatch z⟩
   ·cases rx; rw [decide_eq_false (fun z => nomatch z)]; exact ⟨SeqAt.EqAt.bool_list _ p.isList hu', fun a b z => nomatch z⟩
  ·cases ry
   obtain ⟨its, _, p, _⟩ := I.tuple hb
   rcases hx' with ⟨rfl, rfl⟩ | ⟨i, rfl, rfl⟩ | ⟨i, rfl, rfl⟩ | ⟨i, rfl, rfl⟩
   ·cases rx; rw [decide_eq_false (fun z => nomatch z)]; exact ⟨SeqAt.EqAt.none_tuple p hu', fun a b z => nomatch z⟩
   ·obtain ⟨t, rfl⟩ := rx; rw [decide_eq_false (fun z => nomatch z)]; exact ⟨SeqAt.EqAt.int_tuple _ _ p hu', fun a b z => nomatch z⟩
   ·obtain ⟨t, rfl⟩ := rx; rw [decide_eq_false (fun z => nomatch z)]; exact ⟨SeqAt.EqAt.str_tuple _ _ p hu', fun a b z => nomatch z⟩
   ·cases rx; rw [decide_eq_false (fun z => nomatch z)]; exact ⟨SeqAt.EqAt.bool_tuple _ p hu', fun a b z => nomatch z⟩
 ·cases rx
  obtain ⟨its, r1, p, hz⟩ := I.list ha
  rcases hy.cases with hy' | ⟨k, hk, b, ys, es, rfl, rfl, hb, pb⟩ | ⟨k, hk, b, ys, es, rfl, rfl, hb, pb⟩
  ·rcases hy' with ⟨rfl, rfl⟩ | ⟨i, rfl, rfl⟩ | ⟨i, rfl, rfl⟩ | ⟨i, rfl, rfl⟩
   ·cases ry; rw [decide_eq_false (fun z => nomatch z)]; exact ⟨SeqAt.EqAt.list_none p.isList hu', fun a b _ z => nomatch z⟩
   ·obtain ⟨t, rfl⟩ := ry; rw [decide_eq_false (fun z => nomatch z)]; exact ⟨SeqAt.EqAt.list_int _ _ p.isList hu', fun a b _ z => nomatch z⟩
   ·obtain ⟨t, rfl⟩ := ry; rw [decide_eq_false (fun z => nomatch z)]; exact ⟨SeqAt.EqAt.list_str _ _ p.isList hu', fun a b _ z => nomatch z⟩
   ·cases ry; rw [decide_eq_false (fun z => nomatch z)]; exact ⟨SeqAt.EqAt.list_bool _ p.isList hu', fun a b _ z => nomatch z⟩
  ·cases ry
   obtain ⟨its2, r2, p2, hz2⟩ := I.list hb
   have l1 := r1.length
   have l2 := r2.length
   have l3 := Paired.length pa
   have l4 := Paired.length pb
   have eqd : decide (Dt.l ds = Dt.l es) = decide (ds = es) := by
    rw [Bool.eq_iff_iff, decide_eq_true_eq, decide_eq_true_eq]
    exact ⟨fun q => Dt.l.inj q, fun q => by rw [q]⟩
   have rc : SeqAt.RcAt A s (.ref a) (.ref b) (decide (Dt.l ds = Dt.l es)) := by
    rw [eqd]
    by_cases hl : its.length = its2.length
    ·have key := SeqAt.RcAt.lists (e := fun j => decide (ds[j]? = es[j]?)) p.isList p2.isList (by simpa using hl) hu' (dn_items (n := n) r1 r2 pa pb fun x y u v d e rx ry h1 h2 =>
      (ih (max m k) (by omega) (A := A.in1) I (by show A.units + 1 + max m k < cLine; omega) rx ry (h1.up (Nat.le_max_left _ _)) (h2.up (Nat.le_max_right _ _))).1)
     rw [all_items (by rw [List.size_toArray]; omega) (by omega)] at key
     exact key
    ·have hne : ds ≠ es := fun q => hl (by rw [q] at l3; omega)
     rw [decide_eq_false hne]
     exact SeqAt.RcAt.lists_lengths p.isList p2.isList (size_ne hl) hu'
   exact ⟨lift rfl rfl rc, fun a' b' e1 e2 => by cases e1; cases e2; exact rc⟩
  ·cases ry
   obtain ⟨its2, r2, p2, _⟩ := I.tuple hb
   rw [decide_eq_false (fun z => nomatch z)]
   exact ⟨SeqAt.EqAt.list_tuple p.isList p2 hu', fun a' b' e1 e2 => by cases e1; cases e2; exact SeqAt.RcAt.list_tuple p.isList p2 hu'⟩
 ·cases rx
  obtain ⟨its, r1, p, hz⟩ := I.tuple ha
  rcases hy.cases with hy' | ⟨k, hk, b, ys, es, rfl, rfl, hb, pb⟩ | ⟨k, hk, b, ys, es, rfl, rfl, hb, pb⟩
  ·rcases hy' with ⟨rfl, rfl⟩ | ⟨i, rfl, rfl⟩ | ⟨i, rfl, rfl⟩ | ⟨i, rfl, rfl⟩
   ·cases ry; rw [decide_eq_false (fun z => nomatch z)]; exact ⟨SeqAt.EqAt.tuple_none p hu', fun a b _ z => nomatch z⟩
   ·obtain ⟨t, rfl⟩ := ry; rw [decide_eq_false (fun z => nomatch z)]; exact ⟨SeqAt.EqAt.tuple_int _ _ p hu', fun a b _ z => nomatch z⟩
   ·obtain ⟨t, rfl⟩ := ry; rw [decide_eq_false (fun z => nomatch z)]; exact ⟨SeqAt.EqAt.tuple_str _ _ p hu', fun a b _ z => nomatch z⟩
   ·cases ry; rw [decide_eq_false (fun z => nomatch z)]; exact ⟨SeqAt.EqAt.tuple_bool _ p hu', fun a b _ z => nomatch z⟩
  ·cases ry
   obtain ⟨its2, r2, p2, _⟩ := I.list hb
   rw [decide_eq_false (fun z => nomatch z)]
   exact ⟨SeqAt.EqAt.tuple_list p p2.isList hu', fun a' b' e1 e2 => by cases e1; cases e2; exact SeqAt.RcAt.tuple_list p p2.isList hu'⟩
  ·cases ry
   obtain ⟨its2, r2, p2, hz2⟩ := I.tuple hb
   have l1 := r1.length
   have l2 := r2.length
   have l3 := Paired.length pa
   have l4 := Paired.length pb
   have eqd : decide (Dt.t ds = Dt.t es) = decide (ds = es) := by
    rw [Bool.eq_iff_iff, decide_eq_true_eq, decide_eq_true_eq]
    exact ⟨fun q => Dt.t.inj q, fun q => by rw [q]⟩
   have rc : SeqAt.RcAt A s (.ref a) (.ref b) (decide (Dt.t ds = Dt.t es)) := by
    rw [eqd]
    have key := SeqAt.RcAt.tuples (e := fun j => decide (ds[j]? = es[j]?)) p p2 hu' (dn_items (n := n) r1 r2 pa pb fun x y u v d e rx ry h1 h2 =>
      (ih (max m k) (by omega) (A := A.in1) I (by show A.units + 1 + max m k < cLine; omega) rx ry (h1.up (Nat.le_max_left _ _)) (h2.up (Nat.le_max_right _ _))).1)
    by_cases hl : its.length = its2.length
    ·rw [show min its.toArray.size its2.toArray.size = ds.length by rw [List.size_toArray, List.size_toArray]; omega, all_items rfl (by omega), show (its.toArray.size == its2.toArray.size) = true by rw [List.size_toArray, List.size_toArray, beq_iff_eq]; exact hl, Bool.and_true] at key
     exact key
    ·have hne : ds ≠ es := fun q => hl (by rw [q] at l3; omega)
     rw [decide_eq_false hne]
     rw [show (its.toArray.size == its2.toArray.size) = false by rw [List.size_toArray, List.size_toArray, beq_eq_false_iff_ne]; exact hl, Bool.and_false] at key
     exact key
   exact ⟨lift rfl rfl rc, fun a' b' e1 e2 => by cases e1; cases e2; exact rc⟩
end
noncomputable def rEqX (K : PySem.W.Frag) (neg : Bool) : R2 := fun x y H Q => match x, y with
 | .ref a, .ref b => ∃ n d e, n ≤ 60 ∧ Dn K H n (.ref a) d ∧ Dn K H n (.ref b) e ∧ ((d = e ∧ Q (.bl (!neg)) H) ∨ (d ≠ e ∧ Q (.bl neg) H))
 | x, y => scal x y = true ∧ Q (.bl (if neg then !decide (x = y) else decide (x = y))) H
section
variable {X : Cx}
open Classical in
theorem op_eqX (hu : X.A.units + 64 < cLine) : OpR X (compareOp .Eq) (rEqX X.K false) := by
 intro pins s σ H x y v u Q I rx ry h
 unfold rEqX at h
 split at h
 ·obtain ⟨n, d, e, hn, hd, he, q⟩ := h
  obtain ⟨_, rc⟩ := dn_rc n (A := X.A) I (by omega) rx ry hd he
  cases rx
  cases ry
  have := rc _ _ rfl rfl
  refine (this X.prog X.w _ _ ?_ : wpAny (model X.prog X.w) X.A (richCompare .Eq _ _) (EP X pins σ Q) X.xe s)
  rcases q with ⟨c, q⟩ | ⟨c, q⟩
  ·rw [decide_eq_true c]; exact ⟨.bl true, H, I, rfl, q⟩
  ·rw [decide_eq_false c]; exact ⟨.bl false, H, I, rfl, q⟩
 ·exact op_eq pins s σ H _ _ v u Q I rx ry ⟨h.1, by simpa using h.2⟩
open Classical in
theorem op_neX (hu : X.A.units + 64 < cLine) : OpR X (compareOp .NotEq) (rEqX X.K true) := by
 intro pins s σ H x y v u Q I rx ry h
 unfold rEqX at h
 split at h
 ·rename_i a b
  obtain ⟨n, d, e, hn, hd, he, q⟩ := h
  cases rx
  cases ry
  have hu' : X.A.units < cLine := by omega
  have fin : SeqAt.RcNeAt X.A s (.ref a) (.ref b) (!decide (d = e)) → wpAny (model X.prog X.w) X.A (compareOp .NotEq (.ref a) (.ref b)) (EP X pins σ Q) X.xe s := fun rc => by
   refine (rc X.prog X.w _ _ ?_ : wpAny (model X.prog X.w) X.A (richCompare .NotEq _ _) (EP X pins σ Q) X.xe s)
   rcases q with ⟨c, q⟩ | ⟨c, q⟩
   ·rw [decide_eq_true c]; exact ⟨.bl false, H, I, rfl, q⟩
   ·rw [decide_eq_false c]; exact ⟨.bl true, H, I, rfl, q⟩
  apply fin
  clear fin q
  rcases hd.cases with hx' | ⟨m, hm, a', xs, ds, e1, rfl, ha, pa⟩ | ⟨m, hm, a', xs, ds, e1, rfl, ha, pa⟩
  ·rcases hx' with ⟨z, _⟩ | ⟨i, z, _⟩ | ⟨i, z, _⟩ | ⟨i, z, _⟩ <;> cases z
  ·cases e1
   obtain ⟨its, r1, p, hz⟩ := I.list ha
   rcases he.cases with hy' | ⟨k, hk, b', ys, es, e2, rfl, hb, pb⟩ | ⟨k, hk, b', ys, es, e2, rfl, hb, pb⟩
   ·rcases hy' with ⟨z, _⟩ | ⟨i, z, _⟩ | ⟨i, z, _⟩ | ⟨i, z, _⟩ <;> cases z
   ·cases e2
    obtain ⟨its2, r2, p2, hz2⟩ := I.list hb
    have l1 := r1.length
    have l2 := r2.length
    have l3 := Paired.length pa
    have l4 := Paired.length pb
    have eqd : decide (Dt.l ds = Dt.l es) = decide (ds = es) := by
     rw [Bool.eq_iff_iff, decide_eq_true_eq, decide_eq_true_eq]
     exact ⟨fun q => Dt.l.inj q, fun q => by rw [q]⟩
    rw [eqd]
    by_cases hl : its.length = its2.length
    ·have key := SeqAt.RcNeAt.lists (e := fun j => decide (ds[j]? = es[j]?)) p.isList p2.isList (by simpa using hl) hu' (dn_items (n := n) r1 r2 pa pb fun x y u v d e rx ry h1 h2 =>
      (dn_rc (max m k) (A := X.A.in1) I (by show X.A.units + 1 + max m k < cLine; omega) rx ry (h1.up (Nat.le_max_left _ _)) (h2.up (Nat.le_max_right _ _))).1)
     rw [all_items (by rw [List.size_toArray]; omega) (by omega)] at key
     exact key
    ·have hne : ds ≠ es := fun q => hl (by rw [q] at l3; omega)
     rw [decide_eq_false hne]
     exact SeqAt.RcNeAt.lists_lengths p.isList p2.isList (size_ne hl) hu'
   ·cases e2
    obtain ⟨its2, r2, p2, _⟩ := I.tuple hb
    rw [decide_eq_false (fun z => nomatch z)]
    exact SeqAt.RcNeAt.list_tuple p.isList p2 hu'
  ·cases e1
   obtain ⟨its, r1, p, hz⟩ := I.tuple ha
   rcases he.cases with hy' | ⟨k, hk, b', ys, es, e2, rfl, hb, pb⟩ | ⟨k, hk, b', ys, es, e2, rfl, hb, pb⟩
   ·rcases hy' with ⟨z, _⟩ | ⟨i, z, _⟩ | ⟨i, z, _⟩ | ⟨i, z, _⟩ <;> cases z
   ·cases e2
    obtain ⟨its2, r2, p2, _⟩ := I.list hb
    rw [decide_eq_false (fun z => nomatch z)]
    exact SeqAt.RcNeAt.tuple_list p p2.isList hu'
   ·cases e2
    obtain ⟨its2, r2, p2, hz2⟩ := I.tuple hb
    have l1 := r1.length
    have l2 := r2.length
    have l3 := Paired.length pa
    have l4 := Paired.length pb
    have eqd : decide (Dt.t ds = Dt.t es) = decide (ds = es) := by
     rw [Bool.eq_iff_iff, decide_eq_true_eq, decide_eq_true_eq]
     exact ⟨fun q => Dt.t.inj q, fun q => by rw [q]⟩
    rw [eqd]
    have key := SeqAt.RcNeAt.tuples (e := fun j => decide (ds[j]? = es[j]?)) p p2 hu' (dn_items (n := n) r1 r2 pa pb fun x y u v d e rx ry h1 h2 =>
      (dn_rc (max m k) (A := X.A.in1) I (by show X.A.units + 1 + max m k < cLine; omega) rx ry (h1.up (Nat.le_max_left _ _)) (h2.up (Nat.le_max_right _ _))).1)
    by_cases hl : its.length = its2.length
    ·rw [show min its.toArray.size its2.toArray.size = ds.length by rw [List.size_toArray, List.size_toArray]; omega, all_items rfl (by omega), show (its.toArray.size == its2.toArray.size) = true by rw [List.size_toArray, List.size_toArray, beq_iff_eq]; exact hl, Bool.and_true] at key
     exact key
    ·have hne : ds ≠ es := fun q => hl (by rw [q] at l3; omega)
     rw [decide_eq_false hne]
     rw [show (its.toArray.size == its2.toArray.size) = false by rw [List.size_toArray, List.size_toArray, beq_eq_false_iff_ne]; exact hl, Bool.and_false] at key
     exact key
 ·exact op_ne pins s σ H _ _ v u Q I rx ry ⟨h.1, by simpa using h.2⟩
end
section
variable {K : PySem.W.Frag} {H : Hp} {Q : VK}
theorem op_eqXK {X : Cx} (K : PySem.W.Frag) (h : X.K = K) (hu : X.A.units + 64 < cLine) : OpR X (compareOp .Eq) (rEqX K false) := h ▸ op_eqX hu
theorem op_neXK {X : Cx} (K : PySem.W.Frag) (h : X.K = K) (hu : X.A.units + 64 < cLine) : OpR X (compareOp .NotEq) (rEqX K true) := h ▸ op_neX hu
theorem rEqX_int {i j : Int} : rEqX K false (.int i) (.int j) H Q = Q (.bl (decide (i = j))) H := by
 show (scal (.int i) (.int j) = true ∧ Q (.bl (if false = true then _ else decide (V.int i = V.int j))) H) = _
 rw [if_neg Bool.false_ne_true]
 exact rEq_int
theorem rNeX_int {i j : Int} : rEqX K true (.int i) (.int j) H Q = Q (.bl (!decide (i = j))) H := by
 show (scal (.int i) (.int j) = true ∧ Q (.bl (if true = true then !decide (V.int i = V.int j) else _)) H) = _
 rw [if_pos rfl]
 exact rNe_int
theorem rEqX_str {i j : Str} : rEqX K false (.str i) (.str j) H Q = Q (.bl (decide (i = j))) H := by
 show (scal (.str i) (.str j) = true ∧ Q (.bl (if false = true then _ else decide (V.str i = V.str j))) H) = _
 rw [if_neg Bool.false_ne_true]
 exact rEq_str
theorem rNeX_str {i j : Str} : rEqX K true (.str i) (.str j) H Q = Q (.bl (!decide (i = j))) H := by
 show (scal (.str i) (.str j) = true ∧ Q (.bl (if true = true then !decide (V.str i = V.str j) else _)) H) = _
 rw [if_pos rfl]
 exact rNe_str
theorem rEqX_bl {i j : Bool} : rEqX K false (.bl i) (.bl j) H Q = Q (.bl (decide (i = j))) H := by
 show (scal (.bl i) (.bl j) = true ∧ Q (.bl (if false = true then _ else decide (V.bl i = V.bl j))) H) = _
 rw [if_neg Bool.false_ne_true]
 exact rEq_bl
theorem rNeX_bl {i j : Bool} : rEqX K true (.bl i) (.bl j) H Q = Q (.bl (!decide (i = j))) H := by
 show (scal (.bl i) (.bl j) = true ∧ Q (.bl (if true = true then !decide (V.bl i = V.bl j) else _)) H) = _
 rw [if_pos rfl]
 exact rNe_bl
theorem bt_ValueError : bootBuiltins "ValueError" = some (.type "ValueError") := by decide +kernel
theorem dn_int {n : Nat} {i : Int} : Dn K H n (.int i) (.int i) := Dn.up (n := 0) (.inr (.inl ⟨i, rfl, rfl⟩)) (Nat.zero_le _)
theorem dn_str {n : Nat} {z : Str} : Dn K H n (.str z) (.str z) := Dn.up (n := 0) (.inr (.inr (.inl ⟨z, rfl, rfl⟩))) (Nat.zero_le _)
theorem dn_bl {n : Nat} {b : Bool} : Dn K H n (.bl b) (.int (if b then 1 else 0)) := Dn.up (n := 0) (.inr (.inr (.inr ⟨b, rfl, rfl⟩))) (Nat.zero_le _)
theorem dn_lst {n : Nat} {a : Addr} {xs : List V} {ds : List Dt} (h : H a = some (.lst xs)) (p : Paired (Dn K H n) xs ds) : Dn K H (n + 1) (.ref a) (.l ds) := .inr (.inl ⟨a, xs, ds, rfl, rfl, SqL.of h, p⟩)
theorem dn_tup {n : Nat} {a : Addr} {xs : List V} {ds : List Dt} (h : H a = some (.tup xs)) (p : Paired (Dn K H n) xs ds) : Dn K H (n + 1) (.ref a) (.t ds) := .inr (.inr ⟨a, xs, ds, rfl, rfl, SqT.of h, p⟩)
end
end L2
set_option maxRecDepth 100000
set_option maxHeartbeats 1000000
namespace L2
open PySem PySem.Spec PyProof.Rows
noncomputable def gOx (K : PySem.W.Frag) (n : Nat) (t : TGs) (a : Addr) (σ : St) (H : Hp) (Q : St → Hp → Prop) : Option HO → Prop
 | some (.tup xs) => xs.length = n ∧ t xs σ H Q
 | some (.lst xs) => xs.length = n ∧ t xs σ H Q
 | _ => ∃ xs, SqT K H a xs ∧ xs.length = n ∧ t xs σ H Q
noncomputable def gTupX (K : PySem.W.Frag) (n : Nat) (t : TGs) : TG := fun v σ H Q => match v with
 | .ref a => gOx K n t a σ H Q (H a)
 | _ => False
theorem gTupX_ref {K : PySem.W.Frag} {n : Nat} {t : TGs} {a : Addr} {σ : St} {H : Hp} {Q : St → Hp → Prop} : gTupX K n t (.ref a) σ H Q = gOx K n t a σ H Q (H a) := rfl
theorem gOx_tup {K : PySem.W.Frag} {n : Nat} {t : TGs} {a : Addr} {σ : St} {H : Hp} {Q : St → Hp → Prop} {xs : List V} : gOx K n t a σ H Q (some (.tup xs)) = (xs.length = n ∧ t xs σ H Q) := rfl
theorem gOx_lst {K : PySem.W.Frag} {n : Nat} {t : TGs} {a : Addr} {σ : St} {H : Hp} {Q : St → Hp → Prop} {xs : List V} : gOx K n t a σ H Q (some (.lst xs)) = (xs.length = n ∧ t xs σ H Q) := rfl
end L2
set_option maxRecDepth 100000
set_option maxHeartbeats 1000000
namespace L2
open PySem PySem.Spec PyProof.Rows
structure QA (X : Cx) (es : List Expr) (t : TA) : Prop where
 h : PA X es t
section
variable {X : Cx}
theorem qa_nil : QA X [] tNil := ⟨pa_nil⟩
theorem qa_q {e : Expr} {es : List Expr} {te : TE} {t : TA} (ha : QE X e te) (hr : QA X es t) (h : isStar e = false := by rfl) : QA X (e :: es) (tCons te t) := ⟨pa_q ha.h hr.h h⟩
theorem qe_lst {es : List Expr} {t : TA} {pos : Pos} (h : QA X es t) : QE X (.List es pos) (tLst t) := ⟨pe_lst h.h⟩
theorem qs_if {e : Expr} {t : TT} {a b : List Stmt} {ta tb : TS} {pos : Pos} (h : PT X e t) (ha : QSs X a ta) (hb : QSs X b tb) : QS X (.If e a b pos) (tIfS t ta tb) := ⟨ps_if h ha.h hb.h⟩
theorem qss_nil : QSs X [] tNext := ⟨pss_nil⟩
end
end L2
namespace WaysM
noncomputable def nsp (a A b B m : Int) : Int × Int := low (3 * b * A + ((a - m * A).natAbs : Int) * B) (4 * (A * B))
noncomputable def nsm (a A m : Int) : Int × Int := low (3 * a + m * A) (4 * A)
structure St (n : Nat) (P S D a A b B : Int) : Prop where
 p : P = 4 ^ n
 s0 : 0 ≤ S
 s1 : S ≤ 1000000 * P
 d0 : 0 ≤ D
 d1 : D ≤ 2000000 * P
 sa : a * P = S * A
 db : b * (2 * P) = D * B
 a0 : 0 ≤ a
 b0 : 0 ≤ b
 pa : ∃ i, A = 2 ^ i
 pb : ∃ j, B = 2 ^ j
 oa : ¬ (a % 2 = 0 ∧ A % 2 = 0)
 ob : ¬ (b % 2 = 0 ∧ B % 2 = 0)
end WaysM
namespace WaysM
end WaysM
set_option maxRecDepth 100000
set_option maxHeartbeats 1000000
namespace L2
open PySem PySem.Spec PyProof.Rows
noncomputable def rFindS : V → List V → Hp → VK → Prop := fun x vs H Q => match x, vs with
 | .str z, [.str y] => Q (.int (match Builtin.Str.occurrences z y 0 z.length 1 with | i :: _ => (i : Int) | [] => -1)) H
 | _, _ => False
noncomputable def rIndexS : V → List V → Hp → VK → Prop := fun x vs H Q => match x, vs with
 | .str z, [.str y] => ∃ i r, Builtin.Str.occurrences z y 0 z.length 1 = i :: r ∧ Q (.int (i : Nat)) H
 | _, _ => False
noncomputable def ljS (z : Str) (i : Int) : Str := if i ≤ z.length then z else Builtin.Str.padded z 0 (i.toNat - z.length) 32
noncomputable def rLjust : V → List V → Hp → VK → Prop := fun x vs H Q => match x, vs with
 | .str z, [.int i] => (0 ≤ i ∧ i ≤ 1000) ∧ (ljS z i).length ≤ sizeLine ∧ Q (.str (ljS z i)) H
 | _, _ => False
section
variable {X : Cx}
end
noncomputable def idxAt (ss : List Str) (y : Str) (j : Nat) : Prop := ss[j]? = some y ∧ ∀ m, m < j → ss[m]? ≠ some y
noncomputable def rIndexT (K : PySem.W.Frag) : V → List V → Hp → VK → Prop := fun x vs H Q => match x, vs with
 | .ref p, [.str y] => ∃ ss : List Str, SqT K H p (ss.map V.str) ∧ ∃ j, idxAt ss y j ∧ Q (.int (j : Nat)) H
 | _, _ => False
noncomputable def rIndexL (K : PySem.W.Frag) : V → List V → Hp → VK → Prop := fun x vs H Q => match x, vs with
 | .ref p, [.str y] => ∃ ss : List Str, SqL K H p (ss.map V.str) ∧ ∃ j, idxAt ss y j ∧ Q (.int (j : Nat)) H
 | _, _ => False
section
variable {X : Cx}
end
noncomputable def rJoin (K : PySem.W.Frag) : V → List V → Hp → VK → Prop := fun x vs H Q => match x, vs with
 | .str z, [.ref p] => ∃ ss : List Str, SqL K H p (ss.map V.str) ∧ (ss.map (·.length)).sum + ss.length * z.length ≤ 1000000 ∧ Q (.str (Txt.join z ss)) H
 | _, _ => False
noncomputable def kit2 : Option Bool → Option Bool → Option Bool
 | some true, _ => some true
 | some false, o => o
 | none, _ => none
theorem kit2_t {o : Option Bool} : kit2 (some true) o = some true := rfl
theorem kit2_f {o : Option Bool} : kit2 (some false) o = o := rfl
theorem kitAny_2 {K : PySem.W.Frag} {t c d : Value} : PySem.W.kitAny K t [c, d] = kit2 (PySem.W.kitOne K t c) (PySem.W.kitOne K t d) := by
 unfold PySem.W.kitAny PySem.W.kitAny PySem.W.kitAny
 cases PySem.W.kitOne K t c with
 | none => rfl
 | some b =>
  cases b
  ·cases PySem.W.kitOne K t d with
   | none => rfl
   | some b => cases b <;> rfl
  ·rfl
noncomputable def isiTO (N : Addr → Addr → Prop) : Option HO → Prop
 | some (.tup [.ref C, .ref D]) => N C D
 | _ => False
theorem isiTO_2 {N : Addr → Addr → Prop} {C D : Addr} : isiTO N (some (.tup [.ref C, .ref D])) = N C D := rfl
noncomputable def rIsiX2 (K : PySem.W.Frag) : List V → Hp → VK → Prop := fun xs H Q => match xs with
 | [.ref p, .ref t] => ∃ D dx, H p = some (.ext (exF p (.ref D) dx)) ∧ XgAt K D ∧ xdOk H dx ∧ isiTO (fun C1 C2 => isbO (PySem.W.kitAny K (.ref D) [.ref C1, .ref C2]) fun b => Q (.bl b) H) (H t)
 | _ => False
theorem rIsiX2_ref {K : PySem.W.Frag} {p t : Addr} {H : Hp} {Q : VK} : rIsiX2 K [.ref p, .ref t] H Q = ∃ D dx, H p = some (.ext (exF p (.ref D) dx)) ∧ XgAt K D ∧ xdOk H dx ∧ isiTO (fun C1 C2 => isbO (PySem.W.kitAny K (.ref D) [.ref C1, .ref C2]) fun b => Q (.bl b) H) (H t) := rfl
section
variable {X : Cx} {e : Expr} {f : Str} {ta : TE} {pos : Pos}
noncomputable def rFldXA (K : PySem.W.Frag) (f : Str) (x : V) (H : Hp) (Q : VK) : Prop := ∃ a, x = .ref a ∧ ∃ C dx, H a = some (.ext (exF a (.ref C) dx)) ∧ XgAt K C ∧ XfAt K C f ∧ ∃ d, dx = some d ∧ ∃ fs, H d = some (.xd fs) ∧ ∃ v, fs.lookup f = some v ∧ Q v H
noncomputable def tFldXA (K : PySem.W.Frag) (f : Str) (ta : TE) : TE := fun σ H Q => ta σ H fun x H1 => rFldXA K f x H1 Q
theorem rFldXA_ref {K : PySem.W.Frag} {a : Addr} {f : Str} {H : Hp} {Q : VK} : rFldXA K f (.ref a) H Q = ∃ C dx, H a = some (.ext (exF a (.ref C) dx)) ∧ XgAt K C ∧ XfAt K C f ∧ ∃ d, dx = some d ∧ ∃ fs, H d = some (.xd fs) ∧ ∃ v, fs.lookup f = some v ∧ Q v H := by
 apply propext; unfold rFldXA; constructor
 ·rintro ⟨b, e, h⟩; cases e; exact h
 ·exact fun h => ⟨a, rfl, h⟩
theorem ex_sd {d : Addr} {N : Addr → Prop} : (∃ x, some d = some x ∧ N x) = N d := by
 apply propext; constructor
 ·rintro ⟨x, e, h⟩; cases e; exact h
 ·exact fun h => ⟨d, rfl, h⟩
end
section
variable {K : PySem.W.Frag} {H : Hp} {Q : VK} {z y : Str} {p : Addr} {i : Int}
theorem rFindS_str : rFindS (.str z) [.str y] H Q = Q (.int (match Builtin.Str.occurrences z y 0 z.length 1 with | i :: _ => (i : Int) | [] => -1)) H := rfl
theorem rIndexS_str : rIndexS (.str z) [.str y] H Q = ∃ i r, Builtin.Str.occurrences z y 0 z.length 1 = i :: r ∧ Q (.int (i : Nat)) H := rfl
theorem rLjust_str : rLjust (.str z) [.int i] H Q = ((0 ≤ i ∧ i ≤ 1000) ∧ (ljS z i).length ≤ sizeLine ∧ Q (.str (ljS z i)) H) := rfl
theorem rIndexT_ref : rIndexT K (.ref p) [.str y] H Q = ∃ ss : List Str, SqT K H p (ss.map V.str) ∧ ∃ j, idxAt ss y j ∧ Q (.int (j : Nat)) H := rfl
theorem rIndexL_ref : rIndexL K (.ref p) [.str y] H Q = ∃ ss : List Str, SqL K H p (ss.map V.str) ∧ ∃ j, idxAt ss y j ∧ Q (.int (j : Nat)) H := rfl
theorem rJoin_ref : rJoin K (.str z) [.ref p] H Q = ∃ ss : List Str, SqL K H p (ss.map V.str) ∧ (ss.map (·.length)).sum + ss.length * z.length ≤ 1000000 ∧ Q (.str (Txt.join z ss)) H := rfl
end
section
variable {X : Cx} (K : PySem.W.Frag)
end
end L2
set_option maxRecDepth 100000
set_option maxHeartbeats 1000000
namespace L2
open PySem PySem.Spec PyProof.Rows
section
variable {K : PySem.W.Frag} {g : TG} {tb : TS} {D : Ends} {σ : St} {H : Hp}
end
end L2
set_option maxRecDepth 100000
set_option maxHeartbeats 1000000
namespace L2
open PySem PySem.Spec PyProof.Rows
section
variable {K : PySem.W.Frag} {g : TG} {tb : TS} {D : Ends} {σ : St} {H : Hp} {ta : TA}
end
section
variable {X : Cx} {K : PySem.W.Frag}
end
end L2
set_option maxRecDepth 100000
set_option maxHeartbeats 1000000
namespace FrameM
open PySem L2 Com
noncomputable def signsS : Str := " !\"#$&'()*+,-./0123456789:;<=>?@ABCDEFGHIJKLMNOPQRSTUVWXYZ[\\]^_`abcdefghijklmnopqrstuvwxyz{|}~"
noncomputable def inS (x : V) : Bool := match x with
 | .str i => !(Builtin.Str.occurrences signsS i 0 signsS.length 1).isEmpty
 | _ => false
noncomputable def fromB (v l h : Int) : Bool := decide (l ≤ v) && decide (v ≤ h)
noncomputable def sgl : List Nat := signsS.cps.toList
theorem sgl_len : sgl.length = 94 := by decide +kernel
noncomputable def sgn (c : Nat) : Nat := sgl.idxOf c
theorem occ_all : ∀ j : _root_.Fin 94, Builtin.Str.occurrences signsS ⟨#[sgl.getD j 0]⟩ 0 signsS.length 1 = [sgn (sgl.getD j 0)] ∧ sgn (sgl.getD j 0) = j.val := by decide +kernel
theorem occ_sgn {c : Nat} (h : c ∈ sgl) : Builtin.Str.occurrences signsS ⟨#[c]⟩ 0 signsS.length 1 = [sgn c] ∧ sgn c < 94 ∧ sgl[sgn c]? = some c := by
 obtain ⟨i, hi, rfl⟩ := List.mem_iff_getElem.mp h
 have hi' : i < 94 := by rw [← sgl_len]; exact hi
 have e1 : sgl.getD i 0 = sgl[i] := by rw [List.getD_eq_getElem?_getD, List.getElem?_eq_getElem hi]; rfl
 have d := occ_all ⟨i, hi'⟩
 simp only [e1] at d
 have e2 : sgn sgl[i] = i := d.2
 refine ⟨d.1, by omega, ?_⟩
 generalize sgn sgl[i] = j at e2
 subst e2
 exact List.getElem?_eq_getElem hi
end FrameM
set_option maxRecDepth 100000
set_option maxHeartbeats 1000000
namespace L2
open PySem PySem.Spec PyProof.Rows
noncomputable def NoIni (K : PySem.W.Frag) (C : Addr) : Prop := PySem.W.findIn K (.ref C) "__init__" = some (some (.builtin "object.__init__"))
theorem noini_mk {K : PySem.W.Frag} {C : Addr} (h : PySem.W.findIn K (.ref C) "__init__" = some (some (.builtin "object.__init__"))) : NoIni K C := h
noncomputable def tMkN (C : Addr) : TE := fun _ H Q => ∀ x dx, H x = none → H dx = none → dx ≠ x → Q (.ref x) (upd (upd H dx (.own x)) x (.ins C dx []))
section
variable {X : Cx} {CX : CXT} {C : Addr} {x m : Str} {p pos apos : Pos} {o : Expr} {ta : TE} {k n : Nat} {sp : Sp} {E : XK}
theorem pe_mkN (c : KlsAt X.K X.mg x C) (ni : NoIni X.K C) (hg : Gl X x) (hdb : (x == ("__debug__" : Str)) = false := by decide) : PE X (.Call (.Name x p) [] [] pos) (tMkN C) := by
 intro pins s σ H Q I h
 refine wpAny_Call_Name_kw (ld_glob I hg c.mgC ?_ hdb)
 have hq := h (s.heap.objs.size + 1) s.heap.objs.size (I.hok.fresh (Nat.le_succ _)) (I.hok.fresh (Nat.le_refl _)) (Nat.ne_of_lt (Nat.lt_succ_self _))
 have I2 := Inv.made (C := C) I
 refine PySem.W.callWith_K0 (first := []) I.kIn c.kp (wpAny_call (make_map0 I.kIn c.mks ni (fun self => PySem.W.Looks.of_pure (PySem.W.oi_bind self)) ?_))
 have Y := PySem.W.makes_of (M := model X.prog X.w) I.kIn c.mks
 have hx : ((s.heap.push PySem.W.emptyDict).push (PySem.W.instObj C s.heap.objs.size)).get? (s.heap.objs.size + 1) = some (PySem.W.instObj C s.heap.objs.size) := by heap_get
 have t1 : PySem.W.Looks (model X.prog X.w) ((s.heap.push PySem.W.emptyDict).push (PySem.W.instObj C s.heap.objs.size)) (typeOf (.ref (s.heap.objs.size + 1))) (.ref C) := (PySem.W.Looks.ld hx).andThen .now
 have t2 : PySem.W.Looks (model X.prog X.w) ((s.heap.push PySem.W.emptyDict).push (PySem.W.instObj C s.heap.objs.size)) (isInstance (.ref (s.heap.objs.size + 1)) (.type "object")) true := t1.andThen (Y.top.keeps fun b o e => Heap.get?_push_of_some _ (Heap.get?_push_of_some _ e))
 refine codeAny_call_builtin PySem.W.oi_plain PySem.W.entry_oi (@PySem.W.check_slot (model X.prog X.w) _ _ _ "object.__init__" "object" "__init__" (.ref (s.heap.objs.size + 1)) [] [] _ PySem.W.oi_kind PySem.W.oi_split t2 (PySem.W.oi_args (.ref (s.heap.objs.size + 1))) ?_)
 rw [PySem.W.oi_run]
 exact wpAny_pure (And.intro rfl ⟨.ref _, _, I2, rfl, hq⟩)
noncomputable def VmAt (P : Program) (w : World) (K : PySem.W.Frag) (mg : Str → Option Value) (base : Heap) (CX : CXT) (m : Str) (n : Nat) (sp : Sp) : Prop := ∀ x H Q E, sp [x] H Q E →
 ∃ a C dx fs k ps sp', x = .ref a ∧ H a = some (.ins C dx fs) ∧ fs.lookup m = none ∧ k ≤ n ∧ Cls K C ∧ MtAt P w K mg base CX C m k ps sp' ∧ sp' [.ref a] H Q E
noncomputable def tMtV (sp : Sp) (E : XK) (ta : TE) : TE := fun σ H Q => ta σ H fun x H1 => sp [x] H1 Q E
theorem pe_mtVP {pl : Sem Bool} (he : PE X o ta) (G : VmAt X.prog X.w X.K X.mg X.base CX m k sp) (hr : Room n X.A) (hk : k ≤ n) (hp : Passes CX X E)
  (ht : eval (.Call (.Attribute o m apos) [] [] pos) X.env = (do
   let ov ← eval o X.env
   standAt apos.atName
   let (f, first) ← holding [ov] (getMethod ov m pl)
   callWith pos f first (backTo pos (starEach [] X.env)) (backToKw pos (keywordEach [] X.env)))) :
  PE X (.Call (.Attribute o m apos) [] [] pos) (tMtV sp E ta) := by
 intro pins s σ H Q I h
 refine PySem.W.methodCall_KW (pl := pl) (thn (he pins s σ H _ I h) fun u s1 ⟨x, H1, I1, rx, q⟩ => ?_) ht
 obtain ⟨a, C, dx, fs, k', ps, sp', rfl, ea, l, hk', c, ⟨f, fd, F, hm, b⟩, q⟩ := G _ _ _ _ q
 obtain rfl : u = Value.ref a := rx
 refine getmeth_ok I1 ea c hm l ?_
 exact PySem.W.callWith_K0 (first := [.ref a]) I1.kIn hm.kp (run_fn (us := [.ref a]) (vs := [.ref a]) F (hr.mono (Nat.le_trans hk' hk)) b .nil hp I1 (.cons rfl .nil) q)
theorem pe_mtV [Quiet CX] {pl : Sem Bool} (he : PE X o ta) (G : VmAt X.prog X.w X.K X.mg X.base CX m k sp) (hr : Room n X.A) (hk : k ≤ n)
  (ht : eval (.Call (.Attribute o m apos) [] [] pos) X.env = (do
   let ov ← eval o X.env
   standAt apos.atName
   let (f, first) ← holding [ov] (getMethod ov m pl)
   callWith pos f first (backTo pos (starEach [] X.env)) (backToKw pos (keywordEach [] X.env))) := by rfl) :
  PE X (.Call (.Attribute o m apos) [] [] pos) (tMtV sp E0 ta) := pe_mtVP he G hr hk (Quiet.pass X) ht
theorem pe_mtVE {pl : Sem Bool} (he : PE X o ta) (G : VmAt X.prog X.w X.K X.mg X.base (CX1 X.prog X.w) m k sp) (hr : Room n X.A) (hk : k ≤ n) (hz : Rz X E) (hex : X.ex = [])
  (ht : eval (.Call (.Attribute o m apos) [] [] pos) X.env = (do
   let ov ← eval o X.env
   standAt apos.atName
   let (f, first) ← holding [ov] (getMethod ov m pl)
   callWith pos f first (backTo pos (starEach [] X.env)) (backToKw pos (keywordEach [] X.env))) := by rfl) :
  PE X (.Call (.Attribute o m apos) [] [] pos) (tMtV sp E ta) := pe_mtVP he G hr hk (hz.passes hex) ht
end
structure OgAt (K : PySem.W.Frag) (D : Addr) : Prop where
 hg : PySem.W.plainGet K D "__class__" = true
 hd : PySem.W.hasDictIn K D = true
 ha : PySem.W.findIn K (.ref D) "__class__" = some (some (.builtin "object.__class__"))
 hn : PySem.W.specialIn K (.builtin "object.__class__") "__get__" = some (some (.builtin "getset_descriptor.__get__"))
 htk : PySem.W.takesIn K (.builtin "object.__class__") = some true
 hm : PySem.W.mroIn K D (.type "object") = some true
theorem ogat_mk {K : PySem.W.Frag} {D : Addr} (a : PySem.W.plainGet K D "__class__" = true) (b : PySem.W.hasDictIn K D = true) (c : PySem.W.findIn K (.ref D) "__class__" = some (some (.builtin "object.__class__")))
 (d : PySem.W.specialIn K (.builtin "object.__class__") "__get__" = some (some (.builtin "getset_descriptor.__get__"))) (e : PySem.W.takesIn K (.builtin "object.__class__") = some true) (f : PySem.W.mroIn K D (.type "object") = some true) : OgAt K D := ⟨a, b, c, d, e, f⟩
noncomputable def rIsiO (K : PySem.W.Frag) : List V → Hp → VK → Prop := fun xs H Q => match xs with
 | [.ref p, .ref C] => ∃ D dx fs, H p = some (.ins D dx fs) ∧ OgAt K D ∧ isbO (PySem.W.kitOne K (.ref D) (.ref C)) fun b => Q (.bl b) H
 | _ => False
theorem rIsiO_ref {K : PySem.W.Frag} {p C : Addr} {H : Hp} {Q : VK} : rIsiO K [.ref p, .ref C] H Q = ∃ D dx fs, H p = some (.ins D dx fs) ∧ OgAt K D ∧ isbO (PySem.W.kitOne K (.ref D) (.ref C)) fun b => Q (.bl b) H := rfl
section
variable {prog : Program} {w : World} {A : Around} {s : Shared} {K : PySem.W.Frag} {x C R dx : Addr} {cd : ClassData} {name : Str} {v : Value}
theorem set_x2 {E : Value → Shared → Prop} {vs : Array Value} {m : Str → Option Value} {ns : List Str} {Q : Unit → Shared → Prop} (X : K.In s.heap) (hx : s.heap.get? x = some ⟨.ref C, some dx, .fields vs, #[]⟩) (hn : s.heap.Ns1 dx m) (hw : PySem.Within m ns) (hl : ns.length < 1000)
  (hc : PySem.W.clsIn K C = some cd) (hm : cd.mro = .ref C :: .ref R :: vErr) (hd : cd.hasDict = true)
  (hs : PySem.W.findIn K (.ref C) "__setattr__" = some (some (.builtin "object.__setattr__"))) (ha : PySem.W.findIn K (.ref C) name = some none)
  (h : ∀ h' t', h'.Ns1 dx (fun y => if y = name then some v else m y) → (∀ b o, b ≠ dx → s.heap.get? b = some o → h'.get? b = some o) → Q () { s with heap := h', toks := t' }) :
  wpAny (model prog w) A (setAttr (.ref x) name v) Q E s := by
 obtain ⟨od, es, ep, hod, _⟩ := id hn
 have I : PySem.W.InstAt s.heap x ⟨.ref C, some dx, .fields vs, #[]⟩ C (some od) := ⟨hx, rfl, rfl, hod⟩
 have F := PySem.F.store_object
 have lc : PySem.W.Looks (model prog w) s.heap (classData C) cd := PySem.W.looks_clsIn X hc
 have sub : PySem.W.Looks (model prog w) s.heap (isInstance (.ref x) (.type "object")) true := I.type.andThen (PySem.W.looks_mroIn X (by unfold PySem.W.mroIn; rw [hc, Option.bind_some, hm]; rfl))
 have mro : PySem.W.Looks (model prog w) s.heap (mroOf (.ref C)) cd.mro := lc.andThen .now
 refine PySem.W.set_plain X I hs ?_
 refine codeAny_call_builtin F.slot.plain F.entry ?_
 refine @PySem.W.check_slot (model prog w) _ _ { s with toks := s.toks + 1 } "object.__setattr__" "object" "__setattr__" (.ref x) [.str name s.toks, v] [] _ F.kind F.split sub (F.args (.ref x) (.str name s.toks) v) ?_
 rw [PySem.W.osa_eq, refuse_eq]
 refine wpAny_bind (wpAny_bind (I.type.here (s := { s with toks := s.toks + 1 }) (wpAny_bind (mro.here (s := { s with toks := s.toks + 1 }) ?_))))
 rw [hm, refuseLoop_ref, refuseLoop_ref, PySem.F.store_ValueError.passes]
 refine wpAny_pure (wpAny_bind (I.type.here (s := { s with toks := s.toks + 1 }) (wpAny_bind ((PySem.W.looks_findIn X ha).here (s := { s with toks := s.toks + 1 }) (wpAny_bind (wpAny_pure ?_))))))
 refine wpAny_bind (wpAny_pure (wpAny_bind (wpAny_bind (wpAny_loadPart (s := { s with toks := s.toks + 1 }) hx (wpAny_bind (lc.here (s := { s with toks := s.toks + 1 }) ?_))))))
 rw [hd, if_neg (by decide)]
 refine wpAny_pure ?_
 show wpAny _ _ (Builtin.ObjectAttr.storeInDict dx (.str name s.toks) name v) _ _ _
 unfold Builtin.ObjectAttr.storeInDict Builtin.ObjectAttr.newKeyGuard
 refine wpAny_bind (wpAny_pure (wpAny_bind (wpAny_nsSet1 (s := { s with toks := s.toks + 1 }) hn fun h' n' sb => ?_)))
 obtain ⟨oD, esD, epD, hoD, hdD, hcD⟩ := n'.count (PySem.Within.cons name v hw)
 refine wpAny_bind (wpAny_lookBehind hoD (by rw [hdD]; exact pastItsLine_dict (Nat.le_trans hcD (by rw [List.length_cons, sizeLine_eq]; omega))) ?_)
 exact wpAny_pure (h h' _ n' fun b o ne hb => (sb.2 b ne).trans hb)
end
section
variable {X : Cx} {pins : List (Addr × Obj)} {σ : St} {H : Hp} {s : Shared} {h' : Heap} {dx : Addr}
theorem look_mem : ∀ {fs : List (Str × V)} {g : Str} {y : V}, fs.lookup g = some y → g ∈ fs.map (·.1)
 | [], _, _, h => by cases h
 | (k, z) :: fs, g, y, h => by
  simp only [List.lookup] at h
  split at h
  ·rename_i e
   rw [beq_iff_eq.mp e]
   exact List.mem_cons_self
  ·exact List.mem_cons_of_mem _ (look_mem h)
theorem look_app : ∀ {fs : List (Str × V)} {f g : Str} {y : V}, fs.lookup f = none → (fs ++ [(f, y)]).lookup g = if g = f then some y else fs.lookup g
 | [], f, g, y, _ => by
  show List.lookup g [(f, y)] = _
  by_cases c : g = f
  ·rw [if_pos c, c]; simp [List.lookup]
  ·have : (g == f) = false := beq_eq_false_iff_ne.mpr c
   rw [if_neg c]; simp [List.lookup, this]
 | (k, z) :: fs, f, g, y, h => by
  simp only [List.lookup] at h
  split at h
  ·cases h
  ·rename_i e
   have ih := look_app (g := g) (y := y) h
   show List.lookup g ((k, z) :: (fs ++ [(f, y)])) = _
   simp only [List.lookup]
   split
   ·rename_i e2
    have : g ≠ f := fun q => by
     rw [← q, e2] at e
     cases e
    rw [if_neg this]
   ·exact ih
theorem Inv.setx2 {fs : List (Str × V)} {y : V} {u : Value} {f : Str} {t' : Nat} {mA : Str → Option Value} (I : Inv X pins σ H s) (hH : H dx = some (.xd fs)) (hf : fs.lookup f = none) (hr : ∀ g, RelO (fs.lookup g) (mA g))
  (hn : h'.Ns1 dx (fun z => if z = f then some u else mA z)) (k : ∀ b o, b ≠ dx → s.heap.get? b = some o → h'.get? b = some o) (ry : RelV y u) :
  Inv X pins σ (upd H dx (.xd (fs ++ [(f, y)]))) { s with heap := h', toks := t' } := by
 have ne : ∀ {b : Addr} {o : HO}, H b = some o → (∀ ψ, o ≠ .xd ψ) → b ≠ dx := fun {b o} q n z => by
  subst z
  rw [hH] at q
  injection q with q
  exact n _ q.symm
 have fr : ∀ b, H b = none → b ≠ dx := fun b q z => by rw [z, hH] at q; cases q
 obtain ⟨od, _, _, hod, _⟩ := id hn
 refine I.un (t' := t') ⟨fun b o q n _ _ => k b o (fr b n) q, fun b o q n _ _ => ⟨o.slots, k b o (fr b n) q⟩, fun b o q n _ => ?_, fun b o q _ => ?_, fun b xs q => ?_, fun b o u q => ?_, fun b ps q => ⟨#[], ?_⟩⟩ fun b o q => ?_
 ·rw [upd_ne (fr b n)]; exact n
 ·by_cases z : b = dx
  ·exact ⟨_, z ▸ hod⟩
  ·exact ⟨o, k b o z q⟩
 ·rw [upd_ne (ne q (by simp))]; exact q
 ·rw [upd_ne (ne q (by simp))]; exact q
 ·rw [upd_ne (ne q (by simp)), q]; simp
 ·by_cases z : b = dx
  ·subst z
   rw [upd_same] at q
   cases q
   refine ⟨_, hn, fun g => ?_⟩
   rw [look_app hf]
   by_cases c : g = f
   ·rw [if_pos c, if_pos c]
    exact ry
   ·rw [if_neg c, if_neg c]
    exact hr g
  ·rw [upd_ne z] at q
   refine (I.hok b o q).stay (fun c u hc g => ?_) (fun c g => by rw [upd_ne (ne g (by simp))]; exact g) fun c xs g => by rw [upd_ne (ne g (by simp))]; exact g
   rcases hc with r | r
   ·exact k c u (r ▸ z) g
   ·exact k c u (ne r (by simp)) g
end
noncomputable def sFldX2 (C : Addr) (ta tv : TE) (f : Str) : TS := fun D σ H => tv σ H fun y H1 => ta σ H1 fun x H2 => ∃ e, x = .ref e ∧ ∃ dx fs, H2 e = some (.ext (exN e C (some dx))) ∧ H2 dx = some (.xd fs) ∧ fs.lookup f = none ∧ fs.length < 1000 ∧ D.nx σ (upd H2 dx (.xd (fs ++ [(f, y)])))
section
variable {X : Cx} {E : XK}
theorem ps_fldX2 {o value : Expr} {f x : Str} {C R : Addr} {pos pos' : Pos} {ta tv : TE} (c : XcI X.K X.mg x C R) (m : XfAt X.K C f) (ha : PE X o ta) (hv : PE X value tv) (hs : isComp value = false := by rfl) : PS X (.Assign [.Attribute o f pos'] value pos) (sFldX2 C ta tv f) := by
 intro pins s σ H D I h
 obtain ⟨ini, c⟩ := c
 obtain ⟨cd, hc, hm, hd⟩ := c.cd
 refine plainObj_wpAny_Assign_Attribute (thn (hv pins s σ H _ I h) fun u s1 ⟨y, H1, I1, ry, q⟩ => thn (ha pins s1 σ H1 _ I1 q) fun ov s2 ⟨x, H2, I2, rx, e, ex, dx, fs, eH, eD, hf, hl, q2⟩ => ?_) (swaps_of hs)
 subst ex
 obtain rfl : ov = Value.ref e := rx
 obtain ⟨⟨vs, he, v1, v2⟩, _⟩ := I2.hok e _ eH
 obtain ⟨mA, hn, hr⟩ := (show ObjOk X.prog X.w H2 s2.heap dx (.xd fs) from I2.hok dx _ eD)
 refine set_x2 I2.kIn he hn (ns := fs.map (·.1)) (fun g hg => ?_) (by rw [List.length_map]; exact hl) hc hm hd m.sa m.no fun h' t' g1 g2 => ⟨σ, _, I2.setx2 eD hf hr g1 g2 ry, q2⟩
 have := hr g
 cases e1 : fs.lookup g with
 | some y => exact look_mem e1
 | none =>
  rw [e1] at this
  exact absurd (RelO.none_of this) hg
end
section
variable {X : Cx} {a b : Expr} {ta tb : TE} {op : Operator} {r : R2} {pos : Pos}
end
end L2
namespace StM
section
variable {p K T t n : Nat}
end
section
variable {p K T n : Nat → Nat} {h : Nat → Nat → Nat} {i : Nat}
end
end StM
set_option maxRecDepth 100000
set_option maxHeartbeats 1000000
namespace L2
open PySem PySem.Spec PyProof.Rows
noncomputable def tHn (K : PySem.W.Frag) (C : Addr) (th : TS) (tr : TH) : TH := fun D σ cls dx H => hx2 (isx K cls C) (∀ ea, H ea = none → th D σ (upd H ea (.ext (exF ea cls dx)))) (tr D σ cls dx H)
section
variable {X : Cx}
theorem ph_cons0 {K : PySem.W.Frag} {x : Str} {C : Addr} {np pos : Pos} {b₀ : Stmt} {body : List Stmt} {rest : List ExceptHandler} {th : TS} {tr : TH} (hK : X.K = K) (m : XmAt X.K X.mg x C) (hg : Gl X x)
  (hs : ∀ e, PSs (X.hand e) (b₀ :: body) th) (hr : PH X rest tr) (hdb : (x == ("__debug__" : Str)) = false := by decide) : PH X (.ExceptHandler (some (.Name x np)) none (b₀ :: body) pos :: rest) (tHn K C th tr) := by
 subst hK
 intro pins s σ H D ea cls dx T I hx hH h
 have ok := I.ok
 have Ih : Inv (X.hand (.ref ea)) pins σ (upd H ea (.ext (exF ea cls dx))) s := I.hand
 obtain ⟨oe, vs, he, hc, _⟩ := id hx
 refine wpAny_handleBy_cons (codeAny_handlers_test (ld_glob (X := X.hand (.ref ea)) Ih hg m.mgC ?_ hdb)) (by intro q; cases q)
 unfold tHn at h
 cases hb : isx X.K cls C with
 | none => rw [hb] at h; exact h.elim
 | some b =>
  rw [hb] at h
  refine xmatch I.kIn he m (by rw [hc]; exact hb) ?_
  cases b with
  | false => exact hr pins s σ H D ea cls dx T I hx hH h
  | true =>
   refine codeAny_handlers_suite (flight_x hx ?_)
   refine wpAny_mono (hs (.ref ea) pins s _ _ _ Ih (h ea hH)) (fun f s2 q => ?_) fun _ _ z => z.elim
   cases f with
   | next => obtain ⟨σ', H', I', q⟩ := q; exact ⟨σ', H', I'.unhand ok, q⟩
   | brk => obtain ⟨σ', H', I', q⟩ := q; exact ⟨σ', H', I'.unhand ok, q⟩
   | cont => obtain ⟨σ', H', I', q⟩ := q; exact ⟨σ', H', I'.unhand ok, q⟩
   | ret u => obtain ⟨v, σ', H', I', r, q⟩ := q; exact ⟨v, σ', H', I'.unhand ok, r, q⟩
end
noncomputable def tMtVS (σ0 : St) (sp : Sp) (E : XK) (ta : TE) : TE := fun σ H Q => σ = σ0 ∧ ta σ H fun x H1 => sp [x] H1 Q E
section
variable {X : Cx} {CX : CXT} {m : Str} {pos apos : Pos} {o : Expr} {ta : TE} {k n : Nat} {sp : Sp} {E : XK} {σ0 : St}
end
end L2
set_option maxRecDepth 100000
set_option maxHeartbeats 1000000
namespace L2
open PySem PySem.Spec PyProof.Rows
section
variable {X : Cx} {CX : CXT} {C : Addr} {m x : Str} {pos apos : Pos} {o : Expr} {ta : TE} {k n : Nat} {ps : List Str} {sp : Sp} {E : XK} {σ0 : St}
theorem pe_mtS0 {pl : Sem Bool} (he : PE X o ta) (c : KlsAt X.K X.mg x C) (G : MtAt X.prog X.w X.K X.mg X.base CX C m k ps sp) (hr : Room n X.A) (hk : k ≤ n) (hx : PassS CX X σ0 E)
  (ht : eval (.Call (.Attribute o m apos) [] [] pos) X.env = (do
   let ov ← eval o X.env
   standAt apos.atName
   let (f, first) ← holding [ov] (getMethod ov m pl)
   callWith pos f first (backTo pos (starEach [] X.env)) (backToKw pos (keywordEach [] X.env))) := by rfl) :
  PE X (.Call (.Attribute o m apos) [] [] pos) (tMtS σ0 C m sp E ta tNil) := by
 obtain ⟨f, fd, F, hm, b⟩ := G
 intro pins s σ H Q I ⟨hσ, h⟩
 subst hσ
 refine PySem.W.methodCall_KW (pl := pl) (thn (he pins s σ H _ I h) fun u s1 ⟨x, H1, I1, rx, a, ex, dx, fs, ea, l, q⟩ => ?_) ht
 subst ex
 obtain rfl : u = Value.ref a := rx
 refine getmeth_ok I1 ea c.cl hm l ?_
 exact PySem.W.callWith_K0 (first := [.ref a]) I1.kIn hm.kp (run_fnS (us := [.ref a]) (vs := [.ref a]) F (hr.mono hk) b hx I1 (.cons rfl .nil) q)
end
end L2
set_option maxRecDepth 100000
set_option maxHeartbeats 1000000
namespace L2
open PySem PySem.Spec PyProof.Rows
section
variable {prog : Program} {w : World} {A : Around} {R : Result → Shared → Prop} {I : Addr} {fp wr : List Addr} {n : Nat} {P : Nat → Value → Prop} {St : Nat → Heap → Prop}
end
section
variable {prog : Program} {w : World} {A : Around} {E : Value → Shared → Prop} {s : Shared}
end
noncomputable def rMaxD (K : PySem.W.Frag) : List V → List V → Hp → VK → Prop := fun vs ds H Q => match vs, ds with
 | [.ref p], [d] => ∃ ns : List Int, SqL K H p (ns.map V.int) ∧ (ns = [] → Q d H) ∧ (0 < ns.length → ∀ M, M ∈ ns → (∀ a, a ∈ ns → a ≤ M) → Q (.int M) H)
 | _, _ => False
noncomputable def tMaxD (K : PySem.W.Frag) (t td : TA) : TE := fun σ H Q => t σ H fun vs H1 => td σ H1 fun ds H2 => rMaxD K vs ds H2 Q
theorem rMaxD_ref {K : PySem.W.Frag} {p : Addr} {d : V} {H : Hp} {Q : VK} : rMaxD K [.ref p] [d] H Q = ∃ ns : List Int, SqL K H p (ns.map V.int) ∧ (ns = [] → Q d H) ∧ (0 < ns.length → ∀ M, M ∈ ns → (∀ a, a ∈ ns → a ≤ M) → Q (.int M) H) := rfl
section
variable {X : Cx}
end
end L2
set_option maxRecDepth 100000
set_option maxHeartbeats 1000000
namespace L2
open PySem PySem.Spec PyProof.Rows
noncomputable def rIsiT (K : PySem.W.Frag) : List V → Hp → VK → Prop := fun xs H Q => match xs with
 | [.ref p, .ty "tuple"] => (∃ ys, SqT K H p ys) ∧ Q (.bl true) H
 | xs => rIsiB K xs H Q
theorem rIsiT_ref {K : PySem.W.Frag} {p : Addr} {H : Hp} {Q : VK} : rIsiT K [.ref p, .ty "tuple"] H Q = ((∃ ys, SqT K H p ys) ∧ Q (.bl true) H) := rfl
theorem call_isiT {X : Cx} (K : PySem.W.Frag) (hK : X.K = K) : CallR X (.builtin "isinstance") (rIsiT K) := by
 intro pins s σ H xs us Q I rs q
 unfold rIsiT at q
 split at q
 ·rename_i p
  subst hK
  obtain ⟨⟨ys, hy⟩, q⟩ := q
  obtain ⟨u, c, rfl, ru, rc⟩ := vals2 rs
  obtain rfl : u = Value.ref p := ru
  obtain rfl : c = Value.type "tuple" := rc
  obtain ⟨its, r, ⟨o, h1, h2, _⟩, hz⟩ := I.tuple hy
  exact PySem.W.kia_one PySem.W.kitx_tuple I.kIn ⟨o, h1, h2⟩ (kit_tt X.K) (fun z => nomatch z) fun tk => ⟨.bl true, H, I.tok tk, rfl, q⟩
 ·exact call_isiB K hK pins s σ H _ us Q I rs q
noncomputable def anyS : List (Option Bool) → Option Bool
 | [] => some false
 | some true :: _ => some true
 | some false :: r => anyS r
 | none :: _ => none
section
variable {prog : Program} {w : World} {A : Around} {E : Value → Shared → Prop} {s : Shared} {K : PySem.W.Frag}
end
section
variable {X : Cx}
noncomputable def tHt (K : PySem.W.Frag) (Cs : List Addr) (th : TS) (tr : TH) : TH := fun D σ cls dx H => ∀ t, H t = none → hx2 (anyS (Cs.map (isx K cls))) (∀ ea, upd H t (.tup (Cs.map V.ref)) ea = none → th D σ (upd (upd H t (.tup (Cs.map V.ref))) ea (.ext (exF ea cls dx)))) (tr D σ cls dx (upd H t (.tup (Cs.map V.ref))))
end
theorem anyS_t {os : List (Option Bool)} : anyS (some true :: os) = some true := rfl
theorem anyS_f {os : List (Option Bool)} : anyS (some false :: os) = anyS os := rfl
theorem anyS_nil : anyS [] = some false := rfl
end L2
set_option maxRecDepth 100000
set_option maxHeartbeats 4000000
namespace K63
open PySem L2 Com FrameM
noncomputable def tHold (u : TS) : TS := u
theorem pss_hold {X : Cx} {l : List Stmt} {u : TS} (h : PSs X l u) : PSs X l (tHold u) := h
theorem qss_hold {X : Cx} {l : List Stmt} {u : TS} (h : QSs X l u) : QSs X l (tHold u) := ⟨h.h⟩
noncomputable def top (i : Nat) : Stmt := PySem.Challenge.pw_slowroad_k63_wishes_of_a_hand.main.body.getD i (.Pass ⟨0, 0, 0, 0⟩)
theorem len_1 {α : Type} {us : List α} (h : us.length = 1) : ∃ a0, us = [a0] := List.length_eq_one_iff.mp h
theorem len_2 {α : Type} {us : List α} (h : us.length = 2) : ∃ a0 a1, us = [a0, a1] := by
 obtain ⟨a, t, rfl⟩ := List.exists_cons_of_length_eq_add_one h
 obtain ⟨b0, rfl⟩ := len_1 (Nat.succ.inj h)
 exact ⟨a, b0, rfl⟩
theorem len_3 {α : Type} {us : List α} (h : us.length = 3) : ∃ a0 a1 a2, us = [a0, a1, a2] := by
 obtain ⟨a, t, rfl⟩ := List.exists_cons_of_length_eq_add_one h
 obtain ⟨b0, b1, rfl⟩ := len_2 (Nat.succ.inj h)
 exact ⟨a, b0, b1, rfl⟩
theorem len_4 {α : Type} {us : List α} (h : us.length = 4) : ∃ a0 a1 a2 a3, us = [a0, a1, a2, a3] := by
 obtain ⟨a, t, rfl⟩ := List.exists_cons_of_length_eq_add_one h
 obtain ⟨b0, b1, b2, rfl⟩ := len_3 (Nat.succ.inj h)
 exact ⟨a, b0, b1, b2, rfl⟩
theorem len_5 {α : Type} {us : List α} (h : us.length = 5) : ∃ a0 a1 a2 a3 a4, us = [a0, a1, a2, a3, a4] := by
 obtain ⟨a, t, rfl⟩ := List.exists_cons_of_length_eq_add_one h
 obtain ⟨b0, b1, b2, b3, rfl⟩ := len_4 (Nat.succ.inj h)
 exact ⟨a, b0, b1, b2, b3, rfl⟩
theorem len_6 {α : Type} {us : List α} (h : us.length = 6) : ∃ a0 a1 a2 a3 a4 a5, us = [a0, a1, a2, a3, a4, a5] := by
 obtain ⟨a, t, rfl⟩ := List.exists_cons_of_length_eq_add_one h
 obtain ⟨b0, b1, b2, b3, b4, rfl⟩ := len_5 (Nat.succ.inj h)
 exact ⟨a, b0, b1, b2, b3, b4, rfl⟩
noncomputable abbrev s_NotWide___init__ : Stmt := inClass (top 5) 0
theorem sc_NotWide___init__ : FnScope ["self", "least"] ["self", "least"] (defScope s_NotWide___init__) := ⟨rfl, rfl, rfl, by decide +kernel, rfl, by decide +kernel, by decide +kernel⟩
theorem bd_NotWide___init__ : ∀ (kV doc pm : Value) (an : Option Addr) (cdv ct : Value) (us : List Value), us.length = (["self", "least"] : List Str).length → bindArgs (PySem.W.fnOf "__init__" "NotWide.__init__" (defArgs s_NotWide___init__) (defBody s_NotWide___init__) (defScope s_NotWide___init__) .none kV doc pm an cdv ct) ⟨us, []⟩ = pure ((["self", "least"] : List Str).zip us) := by
 intro _ _ _ _ _ _ us hl; obtain ⟨_, _, rfl⟩ := len_2 hl; rfl
noncomputable abbrev s_NotNow___init__ : Stmt := inClass (top 7) 0
theorem sc_NotNow___init__ : FnScope ["self", "state", "wish"] ["self", "state", "wish"] (defScope s_NotNow___init__) := ⟨rfl, rfl, rfl, by decide +kernel, rfl, by decide +kernel, by decide +kernel⟩
theorem bd_NotNow___init__ : ∀ (kV doc pm : Value) (an : Option Addr) (cdv ct : Value) (us : List Value), us.length = (["self", "state", "wish"] : List Str).length → bindArgs (PySem.W.fnOf "__init__" "NotNow.__init__" (defArgs s_NotNow___init__) (defBody s_NotNow___init__) (defScope s_NotNow___init__) .none kV doc pm an cdv ct) ⟨us, []⟩ = pure ((["self", "state", "wish"] : List Str).zip us) := by
 intro _ _ _ _ _ _ us hl; obtain ⟨_, _, _, rfl⟩ := len_3 hl; rfl
noncomputable abbrev s_is_from : Stmt := top 9
theorem sc_is_from : FnScope ["value", "low", "high"] ["value", "low", "high"] (defScope s_is_from) := ⟨rfl, rfl, rfl, by decide +kernel, rfl, by decide +kernel, by decide +kernel⟩
theorem bd_is_from : ∀ (kV doc pm : Value) (an : Option Addr) (cdv ct : Value) (us : List Value), us.length = (["value", "low", "high"] : List Str).length → bindArgs (PySem.W.fnOf "is_from" "is_from" (defArgs s_is_from) (defBody s_is_from) (defScope s_is_from) .none kV doc pm an cdv ct) ⟨us, []⟩ = pure ((["value", "low", "high"] : List Str).zip us) := by
 intro _ _ _ _ _ _ us hl; obtain ⟨_, _, _, rfl⟩ := len_3 hl; rfl
noncomputable abbrev s_Meter___init__ : Stmt := inClass (top 31) 0
theorem sc_Meter___init__ : FnScope ["self", "most"] ["self", "most"] (defScope s_Meter___init__) := ⟨rfl, rfl, rfl, by decide +kernel, rfl, by decide +kernel, by decide +kernel⟩
theorem bd_Meter___init__ : ∀ (kV doc pm : Value) (an : Option Addr) (cdv ct : Value) (us : List Value), us.length = (["self", "most"] : List Str).length → bindArgs (PySem.W.fnOf "__init__" "Meter.__init__" (defArgs s_Meter___init__) (defBody s_Meter___init__) (defScope s_Meter___init__) .none kV doc pm an cdv ct) ⟨us, []⟩ = pure ((["self", "most"] : List Str).zip us) := by
 intro _ _ _ _ _ _ us hl; obtain ⟨_, _, rfl⟩ := len_2 hl; rfl
noncomputable abbrev s_Ways___init__ : Stmt := inClass (top 33) 0
theorem sc_Ways___init__ : FnScope ["self", "first", "longest"] ["self", "first", "longest"] (defScope s_Ways___init__) := ⟨rfl, rfl, rfl, by decide +kernel, rfl, by decide +kernel, by decide +kernel⟩
theorem bd_Ways___init__ : ∀ (kV doc pm : Value) (an : Option Addr) (cdv ct : Value) (us : List Value), us.length = (["self", "first", "longest"] : List Str).length → bindArgs (PySem.W.fnOf "__init__" "Ways.__init__" (defArgs s_Ways___init__) (defBody s_Ways___init__) (defScope s_Ways___init__) .none kV doc pm an cdv ct) ⟨us, []⟩ = pure ((["self", "first", "longest"] : List Str).zip us) := by
 intro _ _ _ _ _ _ us hl; obtain ⟨_, _, _, rfl⟩ := len_3 hl; rfl
noncomputable abbrev s_Ways_ran_out : Stmt := inClass (top 33) 5
theorem sc_Ways_ran_out : FnScope ["self"] ["self"] (defScope s_Ways_ran_out) := ⟨rfl, rfl, rfl, by decide +kernel, rfl, by decide +kernel, by decide +kernel⟩
theorem bd_Ways_ran_out : ∀ (kV doc pm : Value) (an : Option Addr) (cdv ct : Value) (us : List Value), us.length = (["self"] : List Str).length → bindArgs (PySem.W.fnOf "ran_out" "Ways.ran_out" (defArgs s_Ways_ran_out) (defBody s_Ways_ran_out) (defScope s_Ways_ran_out) .none kV doc pm an cdv ct) ⟨us, []⟩ = pure ((["self"] : List Str).zip us) := by
 intro _ _ _ _ _ _ us hl; obtain ⟨_, rfl⟩ := len_1 hl; rfl
noncomputable abbrev s_Sender___init__ : Stmt := inClass (top 36) 0
theorem sc_Sender___init__ : FnScope ["self", "ring", "first", "longest", "most"] ["self", "ring", "first", "longest", "most"] (defScope s_Sender___init__) := ⟨rfl, rfl, rfl, by decide +kernel, rfl, by decide +kernel, by decide +kernel⟩
theorem bd_Sender___init__ : ∀ (kV doc pm : Value) (an : Option Addr) (cdv ct : Value) (us : List Value), us.length = (["self", "ring", "first", "longest", "most"] : List Str).length → bindArgs (PySem.W.fnOf "__init__" "Sender.__init__" (defArgs s_Sender___init__) (defBody s_Sender___init__) (defScope s_Sender___init__) .none kV doc pm an cdv ct) ⟨us, []⟩ = pure ((["self", "ring", "first", "longest", "most"] : List Str).zip us) := by
 intro _ _ _ _ _ _ us hl; obtain ⟨_, _, _, _, _, rfl⟩ := len_5 hl; rfl
noncomputable abbrev s_Sender_put : Stmt := inClass (top 36) 1
theorem sc_Sender_put : FnScope ["self", "thing"] ["self", "thing"] (defScope s_Sender_put) := ⟨rfl, rfl, rfl, by decide +kernel, rfl, by decide +kernel, by decide +kernel⟩
theorem bd_Sender_put : ∀ (kV doc pm : Value) (an : Option Addr) (cdv ct : Value) (us : List Value), us.length = (["self", "thing"] : List Str).length → bindArgs (PySem.W.fnOf "put" "Sender.put" (defArgs s_Sender_put) (defBody s_Sender_put) (defScope s_Sender_put) .none kV doc pm an cdv ct) ⟨us, []⟩ = pure ((["self", "thing"] : List Str).zip us) := by
 intro _ _ _ _ _ _ us hl; obtain ⟨_, _, rfl⟩ := len_2 hl; rfl
noncomputable abbrev s_Sender_many : Stmt := inClass (top 36) 2
theorem sc_Sender_many : FnScope ["self"] ["self"] (defScope s_Sender_many) := ⟨rfl, rfl, rfl, by decide +kernel, rfl, by decide +kernel, by decide +kernel⟩
theorem bd_Sender_many : ∀ (kV doc pm : Value) (an : Option Addr) (cdv ct : Value) (us : List Value), us.length = (["self"] : List Str).length → bindArgs (PySem.W.fnOf "many" "Sender.many" (defArgs s_Sender_many) (defBody s_Sender_many) (defScope s_Sender_many) .none kV doc pm an cdv ct) ⟨us, []⟩ = pure ((["self"] : List Str).zip us) := by
 intro _ _ _ _ _ _ us hl; obtain ⟨_, rfl⟩ := len_1 hl; rfl
noncomputable abbrev s_Sender_thing : Stmt := inClass (top 36) 3
theorem sc_Sender_thing : FnScope ["self", "place"] ["self", "place"] (defScope s_Sender_thing) := ⟨rfl, rfl, rfl, by decide +kernel, rfl, by decide +kernel, by decide +kernel⟩
theorem bd_Sender_thing : ∀ (kV doc pm : Value) (an : Option Addr) (cdv ct : Value) (us : List Value), us.length = (["self", "place"] : List Str).length → bindArgs (PySem.W.fnOf "thing" "Sender.thing" (defArgs s_Sender_thing) (defBody s_Sender_thing) (defScope s_Sender_thing) .none kV doc pm an cdv ct) ⟨us, []⟩ = pure ((["self", "place"] : List Str).zip us) := by
 intro _ _ _ _ _ _ us hl; obtain ⟨_, _, rfl⟩ := len_2 hl; rfl
noncomputable abbrev s_State_wish_begin : Stmt := inClass (top 38) 1
theorem sc_State_wish_begin : FnScope ["self"] ["self"] (defScope s_State_wish_begin) := ⟨rfl, rfl, rfl, by decide +kernel, rfl, by decide +kernel, by decide +kernel⟩
theorem bd_State_wish_begin : ∀ (kV doc pm : Value) (an : Option Addr) (cdv ct : Value) (us : List Value), us.length = (["self"] : List Str).length → bindArgs (PySem.W.fnOf "wish_begin" "State.wish_begin" (defArgs s_State_wish_begin) (defBody s_State_wish_begin) (defScope s_State_wish_begin) .none kV doc pm an cdv ct) ⟨us, []⟩ = pure ((["self"] : List Str).zip us) := by
 intro _ _ _ _ _ _ us hl; obtain ⟨_, rfl⟩ := len_1 hl; rfl
noncomputable abbrev s_State_wish_end : Stmt := inClass (top 38) 2
theorem sc_State_wish_end : FnScope ["self"] ["self"] (defScope s_State_wish_end) := ⟨rfl, rfl, rfl, by decide +kernel, rfl, by decide +kernel, by decide +kernel⟩
theorem bd_State_wish_end : ∀ (kV doc pm : Value) (an : Option Addr) (cdv ct : Value) (us : List Value), us.length = (["self"] : List Str).length → bindArgs (PySem.W.fnOf "wish_end" "State.wish_end" (defArgs s_State_wish_end) (defBody s_State_wish_end) (defScope s_State_wish_end) .none kV doc pm an cdv ct) ⟨us, []⟩ = pure ((["self"] : List Str).zip us) := by
 intro _ _ _ _ _ _ us hl; obtain ⟨_, rfl⟩ := len_1 hl; rfl
noncomputable abbrev s_State_may_put : Stmt := inClass (top 38) 3
theorem sc_State_may_put : FnScope ["self"] ["self"] (defScope s_State_may_put) := ⟨rfl, rfl, rfl, by decide +kernel, rfl, by decide +kernel, by decide +kernel⟩
theorem bd_State_may_put : ∀ (kV doc pm : Value) (an : Option Addr) (cdv ct : Value) (us : List Value), us.length = (["self"] : List Str).length → bindArgs (PySem.W.fnOf "may_put" "State.may_put" (defArgs s_State_may_put) (defBody s_State_may_put) (defScope s_State_may_put) .none kV doc pm an cdv ct) ⟨us, []⟩ = pure ((["self"] : List Str).zip us) := by
 intro _ _ _ _ _ _ us hl; obtain ⟨_, rfl⟩ := len_1 hl; rfl
noncomputable abbrev s_Shut_name : Stmt := inClass (top 39) 0
theorem sc_Shut_name : FnScope ["self"] ["self"] (defScope s_Shut_name) := ⟨rfl, rfl, rfl, by decide +kernel, rfl, by decide +kernel, by decide +kernel⟩
theorem bd_Shut_name : ∀ (kV doc pm : Value) (an : Option Addr) (cdv ct : Value) (us : List Value), us.length = (["self"] : List Str).length → bindArgs (PySem.W.fnOf "name" "Shut.name" (defArgs s_Shut_name) (defBody s_Shut_name) (defScope s_Shut_name) .none kV doc pm an cdv ct) ⟨us, []⟩ = pure ((["self"] : List Str).zip us) := by
 intro _ _ _ _ _ _ us hl; obtain ⟨_, rfl⟩ := len_1 hl; rfl
noncomputable abbrev s_Shut_wish_begin : Stmt := inClass (top 39) 1
theorem sc_Shut_wish_begin : FnScope ["self"] ["self"] (defScope s_Shut_wish_begin) := ⟨rfl, rfl, rfl, by decide +kernel, rfl, by decide +kernel, by decide +kernel⟩
theorem bd_Shut_wish_begin : ∀ (kV doc pm : Value) (an : Option Addr) (cdv ct : Value) (us : List Value), us.length = (["self"] : List Str).length → bindArgs (PySem.W.fnOf "wish_begin" "Shut.wish_begin" (defArgs s_Shut_wish_begin) (defBody s_Shut_wish_begin) (defScope s_Shut_wish_begin) .none kV doc pm an cdv ct) ⟨us, []⟩ = pure ((["self"] : List Str).zip us) := by
 intro _ _ _ _ _ _ us hl; obtain ⟨_, rfl⟩ := len_1 hl; rfl
noncomputable abbrev s_Calling_name : Stmt := inClass (top 40) 0
theorem sc_Calling_name : FnScope ["self"] ["self"] (defScope s_Calling_name) := ⟨rfl, rfl, rfl, by decide +kernel, rfl, by decide +kernel, by decide +kernel⟩
theorem bd_Calling_name : ∀ (kV doc pm : Value) (an : Option Addr) (cdv ct : Value) (us : List Value), us.length = (["self"] : List Str).length → bindArgs (PySem.W.fnOf "name" "Calling.name" (defArgs s_Calling_name) (defBody s_Calling_name) (defScope s_Calling_name) .none kV doc pm an cdv ct) ⟨us, []⟩ = pure ((["self"] : List Str).zip us) := by
 intro _ _ _ _ _ _ us hl; obtain ⟨_, rfl⟩ := len_1 hl; rfl
noncomputable abbrev s_Calling_wish_end : Stmt := inClass (top 40) 1
theorem sc_Calling_wish_end : FnScope ["self"] ["self"] (defScope s_Calling_wish_end) := ⟨rfl, rfl, rfl, by decide +kernel, rfl, by decide +kernel, by decide +kernel⟩
theorem bd_Calling_wish_end : ∀ (kV doc pm : Value) (an : Option Addr) (cdv ct : Value) (us : List Value), us.length = (["self"] : List Str).length → bindArgs (PySem.W.fnOf "wish_end" "Calling.wish_end" (defArgs s_Calling_wish_end) (defBody s_Calling_wish_end) (defScope s_Calling_wish_end) .none kV doc pm an cdv ct) ⟨us, []⟩ = pure ((["self"] : List Str).zip us) := by
 intro _ _ _ _ _ _ us hl; obtain ⟨_, rfl⟩ := len_1 hl; rfl
noncomputable abbrev s_Calling_may_put : Stmt := inClass (top 40) 2
theorem sc_Calling_may_put : FnScope ["self"] ["self"] (defScope s_Calling_may_put) := ⟨rfl, rfl, rfl, by decide +kernel, rfl, by decide +kernel, by decide +kernel⟩
theorem bd_Calling_may_put : ∀ (kV doc pm : Value) (an : Option Addr) (cdv ct : Value) (us : List Value), us.length = (["self"] : List Str).length → bindArgs (PySem.W.fnOf "may_put" "Calling.may_put" (defArgs s_Calling_may_put) (defBody s_Calling_may_put) (defScope s_Calling_may_put) .none kV doc pm an cdv ct) ⟨us, []⟩ = pure ((["self"] : List Str).zip us) := by
 intro _ _ _ _ _ _ us hl; obtain ⟨_, rfl⟩ := len_1 hl; rfl
noncomputable abbrev s_Leaving_name : Stmt := inClass (top 41) 0
theorem sc_Leaving_name : FnScope ["self"] ["self"] (defScope s_Leaving_name) := ⟨rfl, rfl, rfl, by decide +kernel, rfl, by decide +kernel, by decide +kernel⟩
theorem bd_Leaving_name : ∀ (kV doc pm : Value) (an : Option Addr) (cdv ct : Value) (us : List Value), us.length = (["self"] : List Str).length → bindArgs (PySem.W.fnOf "name" "Leaving.name" (defArgs s_Leaving_name) (defBody s_Leaving_name) (defScope s_Leaving_name) .none kV doc pm an cdv ct) ⟨us, []⟩ = pure ((["self"] : List Str).zip us) := by
 intro _ _ _ _ _ _ us hl; obtain ⟨_, rfl⟩ := len_1 hl; rfl
noncomputable abbrev s_Taker___init__ : Stmt := inClass (top 43) 0
theorem sc_Taker___init__ : FnScope ["self", "ring", "room"] ["self", "ring", "room"] (defScope s_Taker___init__) := ⟨rfl, rfl, rfl, by decide +kernel, rfl, by decide +kernel, by decide +kernel⟩
theorem bd_Taker___init__ : ∀ (kV doc pm : Value) (an : Option Addr) (cdv ct : Value) (us : List Value), us.length = (["self", "ring", "room"] : List Str).length → bindArgs (PySem.W.fnOf "__init__" "Taker.__init__" (defArgs s_Taker___init__) (defBody s_Taker___init__) (defScope s_Taker___init__) .none kV doc pm an cdv ct) ⟨us, []⟩ = pure ((["self", "ring", "room"] : List Str).zip us) := by
 intro _ _ _ _ _ _ us hl; obtain ⟨_, _, _, rfl⟩ := len_3 hl; rfl
noncomputable abbrev s_Taker_room_left : Stmt := inClass (top 43) 1
theorem sc_Taker_room_left : FnScope ["self"] ["self"] (defScope s_Taker_room_left) := ⟨rfl, rfl, rfl, by decide +kernel, rfl, by decide +kernel, by decide +kernel⟩
theorem bd_Taker_room_left : ∀ (kV doc pm : Value) (an : Option Addr) (cdv ct : Value) (us : List Value), us.length = (["self"] : List Str).length → bindArgs (PySem.W.fnOf "room_left" "Taker.room_left" (defArgs s_Taker_room_left) (defBody s_Taker_room_left) (defScope s_Taker_room_left) .none kV doc pm an cdv ct) ⟨us, []⟩ = pure ((["self"] : List Str).zip us) := by
 intro _ _ _ _ _ _ us hl; obtain ⟨_, rfl⟩ := len_1 hl; rfl
noncomputable abbrev s_Taker_answer : Stmt := inClass (top 43) 4
theorem sc_Taker_answer : FnScope ["self", "held"] ["self"] (defScope s_Taker_answer) := ⟨rfl, rfl, rfl, by decide +kernel, rfl, by decide +kernel, by decide +kernel⟩
theorem bd_Taker_answer : ∀ (kV doc pm : Value) (an : Option Addr) (cdv ct : Value) (us : List Value), us.length = (["self"] : List Str).length → bindArgs (PySem.W.fnOf "answer" "Taker.answer" (defArgs s_Taker_answer) (defBody s_Taker_answer) (defScope s_Taker_answer) .none kV doc pm an cdv ct) ⟨us, []⟩ = pure ((["self"] : List Str).zip us) := by
 intro _ _ _ _ _ _ us hl; obtain ⟨_, rfl⟩ := len_1 hl; rfl
noncomputable abbrev s_is_text : Stmt := top 48
theorem sc_is_text : FnScope ["text"] ["text"] (defScope s_is_text) := ⟨rfl, rfl, rfl, by decide +kernel, rfl, by decide +kernel, by decide +kernel⟩
theorem bd_is_text : ∀ (kV doc pm : Value) (an : Option Addr) (cdv ct : Value) (us : List Value), us.length = (["text"] : List Str).length → bindArgs (PySem.W.fnOf "is_text" "is_text" (defArgs s_is_text) (defBody s_is_text) (defScope s_is_text) .none kV doc pm an cdv ct) ⟨us, []⟩ = pure ((["text"] : List Str).zip us) := by
 intro _ _ _ _ _ _ us hl; obtain ⟨_, rfl⟩ := len_1 hl; rfl
noncomputable abbrev s_Hand___init__ : Stmt := inClass (top 49) 0
theorem sc_Hand___init__ : FnScope ["self", "side", "terms"] ["self", "side", "terms"] (defScope s_Hand___init__) := ⟨rfl, rfl, rfl, by decide +kernel, rfl, by decide +kernel, by decide +kernel⟩
theorem bd_Hand___init__ : ∀ (kV doc pm : Value) (an : Option Addr) (cdv ct : Value) (us : List Value), us.length = (["self", "side", "terms"] : List Str).length → bindArgs (PySem.W.fnOf "__init__" "Hand.__init__" (defArgs s_Hand___init__) (defBody s_Hand___init__) (defScope s_Hand___init__) .none kV doc pm an cdv ct) ⟨us, []⟩ = pure ((["self", "side", "terms"] : List Str).zip us) := by
 intro _ _ _ _ _ _ us hl; obtain ⟨_, _, _, rfl⟩ := len_3 hl; rfl
noncomputable abbrev s_Hand_name : Stmt := inClass (top 49) 1
theorem sc_Hand_name : FnScope ["self"] ["self"] (defScope s_Hand_name) := ⟨rfl, rfl, rfl, by decide +kernel, rfl, by decide +kernel, by decide +kernel⟩
theorem bd_Hand_name : ∀ (kV doc pm : Value) (an : Option Addr) (cdv ct : Value) (us : List Value), us.length = (["self"] : List Str).length → bindArgs (PySem.W.fnOf "name" "Hand.name" (defArgs s_Hand_name) (defBody s_Hand_name) (defScope s_Hand_name) .none kV doc pm an cdv ct) ⟨us, []⟩ = pure ((["self"] : List Str).zip us) := by
 intro _ _ _ _ _ _ us hl; obtain ⟨_, rfl⟩ := len_1 hl; rfl
noncomputable abbrev s_Hand_begin : Stmt := inClass (top 49) 2
theorem sc_Hand_begin : FnScope ["self"] ["self"] (defScope s_Hand_begin) := ⟨rfl, rfl, rfl, by decide +kernel, rfl, by decide +kernel, by decide +kernel⟩
theorem bd_Hand_begin : ∀ (kV doc pm : Value) (an : Option Addr) (cdv ct : Value) (us : List Value), us.length = (["self"] : List Str).length → bindArgs (PySem.W.fnOf "begin" "Hand.begin" (defArgs s_Hand_begin) (defBody s_Hand_begin) (defScope s_Hand_begin) .none kV doc pm an cdv ct) ⟨us, []⟩ = pure ((["self"] : List Str).zip us) := by
 intro _ _ _ _ _ _ us hl; obtain ⟨_, rfl⟩ := len_1 hl; rfl
noncomputable abbrev s_Hand_end : Stmt := inClass (top 49) 3
theorem sc_Hand_end : FnScope ["self"] ["self"] (defScope s_Hand_end) := ⟨rfl, rfl, rfl, by decide +kernel, rfl, by decide +kernel, by decide +kernel⟩
theorem bd_Hand_end : ∀ (kV doc pm : Value) (an : Option Addr) (cdv ct : Value) (us : List Value), us.length = (["self"] : List Str).length → bindArgs (PySem.W.fnOf "end" "Hand.end" (defArgs s_Hand_end) (defBody s_Hand_end) (defScope s_Hand_end) .none kV doc pm an cdv ct) ⟨us, []⟩ = pure ((["self"] : List Str).zip us) := by
 intro _ _ _ _ _ _ us hl; obtain ⟨_, rfl⟩ := len_1 hl; rfl
noncomputable abbrev s_Hand_put : Stmt := inClass (top 49) 4
theorem sc_Hand_put : FnScope ["self", "text", "at"] ["self", "text"] (defScope s_Hand_put) := ⟨rfl, rfl, rfl, by decide +kernel, rfl, by decide +kernel, by decide +kernel⟩
theorem bd_Hand_put : ∀ (kV doc pm : Value) (an : Option Addr) (cdv ct : Value) (us : List Value), us.length = (["self", "text"] : List Str).length → bindArgs (PySem.W.fnOf "put" "Hand.put" (defArgs s_Hand_put) (defBody s_Hand_put) (defScope s_Hand_put) .none kV doc pm an cdv ct) ⟨us, []⟩ = pure ((["self", "text"] : List Str).zip us) := by
 intro _ _ _ _ _ _ us hl; obtain ⟨_, _, rfl⟩ := len_2 hl; rfl
noncomputable abbrev s_Hand_quiet : Stmt := inClass (top 49) 12
theorem sc_Hand_quiet : FnScope ["self"] ["self"] (defScope s_Hand_quiet) := ⟨rfl, rfl, rfl, by decide +kernel, rfl, by decide +kernel, by decide +kernel⟩
theorem bd_Hand_quiet : ∀ (kV doc pm : Value) (an : Option Addr) (cdv ct : Value) (us : List Value), us.length = (["self"] : List Str).length → bindArgs (PySem.W.fnOf "quiet" "Hand.quiet" (defArgs s_Hand_quiet) (defBody s_Hand_quiet) (defScope s_Hand_quiet) .none kV doc pm an cdv ct) ⟨us, []⟩ = pure ((["self"] : List Str).zip us) := by
 intro _ _ _ _ _ _ us hl; obtain ⟨_, rfl⟩ := len_1 hl; rfl
noncomputable abbrev s_need : Stmt := top 51
theorem sc_need : FnScope ["room", "lag"] ["room", "lag"] (defScope s_need) := ⟨rfl, rfl, rfl, by decide +kernel, rfl, by decide +kernel, by decide +kernel⟩
theorem bd_need : ∀ (kV doc pm : Value) (an : Option Addr) (cdv ct : Value) (us : List Value), us.length = (["room", "lag"] : List Str).length → bindArgs (PySem.W.fnOf "need" "need" (defArgs s_need) (defBody s_need) (defScope s_need) .none kV doc pm an cdv ct) ⟨us, []⟩ = pure ((["room", "lag"] : List Str).zip us) := by
 intro _ _ _ _ _ _ us hl; obtain ⟨_, _, rfl⟩ := len_2 hl; rfl
noncomputable abbrev s_are_rooms : Stmt := top 58
theorem sc_are_rooms : FnScope ["rooms"] ["rooms"] (defScope s_are_rooms) := ⟨rfl, rfl, rfl, by decide +kernel, rfl, by decide +kernel, by decide +kernel⟩
theorem bd_are_rooms : ∀ (kV doc pm : Value) (an : Option Addr) (cdv ct : Value) (us : List Value), us.length = (["rooms"] : List Str).length → bindArgs (PySem.W.fnOf "are_rooms" "are_rooms" (defArgs s_are_rooms) (defBody s_are_rooms) (defScope s_are_rooms) .none kV doc pm an cdv ct) ⟨us, []⟩ = pure ((["rooms"] : List Str).zip us) := by
 intro _ _ _ _ _ _ us hl; obtain ⟨_, rfl⟩ := len_1 hl; rfl
noncomputable abbrev s_are_waits : Stmt := top 59
theorem sc_are_waits : FnScope ["first", "longest"] ["first", "longest"] (defScope s_are_waits) := ⟨rfl, rfl, rfl, by decide +kernel, rfl, by decide +kernel, by decide +kernel⟩
theorem bd_are_waits : ∀ (kV doc pm : Value) (an : Option Addr) (cdv ct : Value) (us : List Value), us.length = (["first", "longest"] : List Str).length → bindArgs (PySem.W.fnOf "are_waits" "are_waits" (defArgs s_are_waits) (defBody s_are_waits) (defScope s_are_waits) .none kV doc pm an cdv ct) ⟨us, []⟩ = pure ((["first", "longest"] : List Str).zip us) := by
 intro _ _ _ _ _ _ us hl; obtain ⟨_, _, rfl⟩ := len_2 hl; rfl
noncomputable abbrev s_Terms___init__ : Stmt := inClass (top 60) 0
theorem sc_Terms___init__ : FnScope ["self", "ring", "rooms", "lag", "first", "longest", "least"] ["self", "ring", "rooms", "lag", "first", "longest"] (defScope s_Terms___init__) := ⟨rfl, rfl, rfl, by decide +kernel, rfl, by decide +kernel, by decide +kernel⟩
theorem bd_Terms___init__ : ∀ (kV doc pm : Value) (an : Option Addr) (cdv ct : Value) (us : List Value), us.length = (["self", "ring", "rooms", "lag", "first", "longest"] : List Str).length → bindArgs (PySem.W.fnOf "__init__" "Terms.__init__" (defArgs s_Terms___init__) (defBody s_Terms___init__) (defScope s_Terms___init__) .none kV doc pm an cdv ct) ⟨us, []⟩ = pure ((["self", "ring", "rooms", "lag", "first", "longest"] : List Str).zip us) := by
 intro _ _ _ _ _ _ us hl; obtain ⟨_, _, _, _, _, _, rfl⟩ := len_6 hl; rfl
noncomputable abbrev s__law_cell_at : Stmt := top 62
theorem sc__law_cell_at : FnScope ["_law_script", "_law_k"] ["_law_script", "_law_k"] (defScope s__law_cell_at) := ⟨rfl, rfl, rfl, by decide +kernel, rfl, by decide +kernel, by decide +kernel⟩
theorem bd__law_cell_at : ∀ (kV doc pm : Value) (an : Option Addr) (cdv ct : Value) (us : List Value), us.length = (["_law_script", "_law_k"] : List Str).length → bindArgs (PySem.W.fnOf "_law_cell_at" "_law_cell_at" (defArgs s__law_cell_at) (defBody s__law_cell_at) (defScope s__law_cell_at) .none kV doc pm an cdv ct) ⟨us, []⟩ = pure ((["_law_script", "_law_k"] : List Str).zip us) := by
 intro _ _ _ _ _ _ us hl; obtain ⟨_, _, rfl⟩ := len_2 hl; rfl
noncomputable abbrev s__law_mixed : Stmt := top 63
theorem sc__law_mixed : FnScope ["_law_cell", "_law_k", "_law_number", "_law_turn"] ["_law_cell", "_law_k"] (defScope s__law_mixed) := ⟨rfl, rfl, rfl, by decide +kernel, rfl, by decide +kernel, by decide +kernel⟩
theorem bd__law_mixed : ∀ (kV doc pm : Value) (an : Option Addr) (cdv ct : Value) (us : List Value), us.length = (["_law_cell", "_law_k"] : List Str).length → bindArgs (PySem.W.fnOf "_law_mixed" "_law_mixed" (defArgs s__law_mixed) (defBody s__law_mixed) (defScope s__law_mixed) .none kV doc pm an cdv ct) ⟨us, []⟩ = pure ((["_law_cell", "_law_k"] : List Str).zip us) := by
 intro _ _ _ _ _ _ us hl; obtain ⟨_, _, rfl⟩ := len_2 hl; rfl
noncomputable abbrev s__law_terms : Stmt := top 64
theorem sc__law_terms : FnScope ["_law_cell", "_law_other", "_law_rooms", "_law_lag", "_law_least", "_law_first", "_law_ring"] ["_law_cell", "_law_other"] (defScope s__law_terms) := ⟨rfl, rfl, rfl, by decide +kernel, rfl, by decide +kernel, by decide +kernel⟩
theorem bd__law_terms : ∀ (kV doc pm : Value) (an : Option Addr) (cdv ct : Value) (us : List Value), us.length = (["_law_cell", "_law_other"] : List Str).length → bindArgs (PySem.W.fnOf "_law_terms" "_law_terms" (defArgs s__law_terms) (defBody s__law_terms) (defScope s__law_terms) .none kV doc pm an cdv ct) ⟨us, []⟩ = pure ((["_law_cell", "_law_other"] : List Str).zip us) := by
 intro _ _ _ _ _ _ us hl; obtain ⟨_, _, rfl⟩ := len_2 hl; rfl
noncomputable abbrev s__law_text : Stmt := top 65
theorem sc__law_text : FnScope ["_law_cell", "_law_size", "_law_some", "_law_signs", "_law_k"] ["_law_cell", "_law_size"] (defScope s__law_text) := ⟨rfl, rfl, rfl, by decide +kernel, rfl, by decide +kernel, by decide +kernel⟩
theorem bd__law_text : ∀ (kV doc pm : Value) (an : Option Addr) (cdv ct : Value) (us : List Value), us.length = (["_law_cell", "_law_size"] : List Str).length → bindArgs (PySem.W.fnOf "_law_text" "_law_text" (defArgs s__law_text) (defBody s__law_text) (defScope s__law_text) .none kV doc pm an cdv ct) ⟨us, []⟩ = pure ((["_law_cell", "_law_size"] : List Str).zip us) := by
 intro _ _ _ _ _ _ us hl; obtain ⟨_, _, rfl⟩ := len_2 hl; rfl
noncomputable abbrev s__law_bad_text : Stmt := top 66
theorem sc__law_bad_text : FnScope ["_law_cell", "_law_signs", "_law_at"] ["_law_cell"] (defScope s__law_bad_text) := ⟨rfl, rfl, rfl, by decide +kernel, rfl, by decide +kernel, by decide +kernel⟩
theorem bd__law_bad_text : ∀ (kV doc pm : Value) (an : Option Addr) (cdv ct : Value) (us : List Value), us.length = (["_law_cell"] : List Str).length → bindArgs (PySem.W.fnOf "_law_bad_text" "_law_bad_text" (defArgs s__law_bad_text) (defBody s__law_bad_text) (defScope s__law_bad_text) .none kV doc pm an cdv ct) ⟨us, []⟩ = pure ((["_law_cell"] : List Str).zip us) := by
 intro _ _ _ _ _ _ us hl; obtain ⟨_, rfl⟩ := len_1 hl; rfl
noncomputable abbrev s__law_bad : Stmt := top 67
theorem sc__law_bad : FnScope ["_law_hand", "_law_signs", "_law_fine", "e"] ["_law_hand", "_law_signs"] (defScope s__law_bad) := ⟨rfl, rfl, rfl, by decide +kernel, rfl, by decide +kernel, by decide +kernel⟩
theorem bd__law_bad : ∀ (kV doc pm : Value) (an : Option Addr) (cdv ct : Value) (us : List Value), us.length = (["_law_hand", "_law_signs"] : List Str).length → bindArgs (PySem.W.fnOf "_law_bad" "_law_bad" (defArgs s__law_bad) (defBody s__law_bad) (defScope s__law_bad) .none kV doc pm an cdv ct) ⟨us, []⟩ = pure ((["_law_hand", "_law_signs"] : List Str).zip us) := by
 intro _ _ _ _ _ _ us hl; obtain ⟨_, _, rfl⟩ := len_2 hl; rfl
noncomputable abbrev s__law_wished : Stmt := top 68
theorem sc__law_wished : FnScope ["_law_hand", "_law_word", "_law_signs", "_law_told", "_law_given", "e"] ["_law_hand", "_law_word", "_law_signs"] (defScope s__law_wished) := ⟨rfl, rfl, rfl, by decide +kernel, rfl, by decide +kernel, by decide +kernel⟩
theorem bd__law_wished : ∀ (kV doc pm : Value) (an : Option Addr) (cdv ct : Value) (us : List Value), us.length = (["_law_hand", "_law_word", "_law_signs"] : List Str).length → bindArgs (PySem.W.fnOf "_law_wished" "_law_wished" (defArgs s__law_wished) (defBody s__law_wished) (defScope s__law_wished) .none kV doc pm an cdv ct) ⟨us, []⟩ = pure ((["_law_hand", "_law_word", "_law_signs"] : List Str).zip us) := by
 intro _ _ _ _ _ _ us hl; obtain ⟨_, _, _, rfl⟩ := len_3 hl; rfl
noncomputable abbrev s__law_after : Stmt := top 69
theorem sc__law_after : FnScope ["_law_name", "_law_word"] ["_law_name", "_law_word"] (defScope s__law_after) := ⟨rfl, rfl, rfl, by decide +kernel, rfl, by decide +kernel, by decide +kernel⟩
theorem bd__law_after : ∀ (kV doc pm : Value) (an : Option Addr) (cdv ct : Value) (us : List Value), us.length = (["_law_name", "_law_word"] : List Str).length → bindArgs (PySem.W.fnOf "_law_after" "_law_after" (defArgs s__law_after) (defBody s__law_after) (defScope s__law_after) .none kV doc pm an cdv ct) ⟨us, []⟩ = pure ((["_law_name", "_law_word"] : List Str).zip us) := by
 intro _ _ _ _ _ _ us hl; obtain ⟨_, _, rfl⟩ := len_2 hl; rfl
noncomputable abbrev s__law_put : Stmt := top 70
theorem sc__law_put : FnScope ["_law_hand", "_law_due", "_law_sender", "_law_place", "_law_found"] ["_law_hand", "_law_due"] (defScope s__law_put) := ⟨rfl, rfl, rfl, by decide +kernel, rfl, by decide +kernel, by decide +kernel⟩
theorem bd__law_put : ∀ (kV doc pm : Value) (an : Option Addr) (cdv ct : Value) (us : List Value), us.length = (["_law_hand", "_law_due"] : List Str).length → bindArgs (PySem.W.fnOf "_law_put" "_law_put" (defArgs s__law_put) (defBody s__law_put) (defScope s__law_put) .none kV doc pm an cdv ct) ⟨us, []⟩ = pure ((["_law_hand", "_law_due"] : List Str).zip us) := by
 intro _ _ _ _ _ _ us hl; obtain ⟨_, _, rfl⟩ := len_2 hl; rfl
noncomputable abbrev s__law_made_by : Stmt := top 71
theorem sc__law_made_by : FnScope ["_law_hand", "_law_terms_here", "_law_side", "_law_ways", "_law_k"] ["_law_hand", "_law_terms_here", "_law_side"] (defScope s__law_made_by) := ⟨rfl, rfl, rfl, by decide +kernel, rfl, by decide +kernel, by decide +kernel⟩
theorem bd__law_made_by : ∀ (kV doc pm : Value) (an : Option Addr) (cdv ct : Value) (us : List Value), us.length = (["_law_hand", "_law_terms_here", "_law_side"] : List Str).length → bindArgs (PySem.W.fnOf "_law_made_by" "_law_made_by" (defArgs s__law_made_by) (defBody s__law_made_by) (defScope s__law_made_by) .none kV doc pm an cdv ct) ⟨us, []⟩ = pure ((["_law_hand", "_law_terms_here", "_law_side"] : List Str).zip us) := by
 intro _ _ _ _ _ _ us hl; obtain ⟨_, _, _, rfl⟩ := len_3 hl; rfl
noncomputable abbrev s__law_step : Stmt := top 72
theorem sc__law_step : FnScope ["_law_hand", "_law_name", "_law_due", "_law_cell", "_law_word", "_law_signs", "_law_after_here", "_law_told"] ["_law_hand", "_law_name", "_law_due", "_law_cell"] (defScope s__law_step) := ⟨rfl, rfl, rfl, by decide +kernel, rfl, by decide +kernel, by decide +kernel⟩
theorem bd__law_step : ∀ (kV doc pm : Value) (an : Option Addr) (cdv ct : Value) (us : List Value), us.length = (["_law_hand", "_law_name", "_law_due", "_law_cell"] : List Str).length → bindArgs (PySem.W.fnOf "_law_step" "_law_step" (defArgs s__law_step) (defBody s__law_step) (defScope s__law_step) .none kV doc pm an cdv ct) ⟨us, []⟩ = pure ((["_law_hand", "_law_name", "_law_due", "_law_cell"] : List Str).zip us) := by
 intro _ _ _ _ _ _ us hl; obtain ⟨_, _, _, _, rfl⟩ := len_4 hl; rfl
noncomputable abbrev s_law : Stmt := top 73
theorem sc_law : FnScope ["_law_script", "_law_terms_here", "_law_hands", "_law_names", "_law_dues", "_law_cell", "_law_at", "_law_side"] ["_law_script"] (defScope s_law) := ⟨rfl, rfl, rfl, by decide +kernel, rfl, by decide +kernel, by decide +kernel⟩
theorem bd_law : ∀ (kV doc pm : Value) (an : Option Addr) (cdv ct : Value) (us : List Value), us.length = (["_law_script"] : List Str).length → bindArgs (PySem.W.fnOf "law" "law" (defArgs s_law) (defBody s_law) (defScope s_law) .none kV doc pm an cdv ct) ⟨us, []⟩ = pure ((["_law_script"] : List Str).zip us) := by
 intro _ _ _ _ _ _ us hl; obtain ⟨_, rfl⟩ := len_1 hl; rfl
noncomputable def fl_Meter_1 (v0 : V) : List (Str × V) := [("most", v0)]
theorem fl_Meter_1_len {v0 : V} : (fl_Meter_1 v0).length < 1000 := by show 1 < 1000; decide
theorem fl_Meter_1_new {v0 : V} : putF "most" v0 [] = fl_Meter_1 v0 := by kernel_rfl
noncomputable def fl_Meter_2 (v0 v1 : V) : List (Str × V) := [("most", v0), ("window", v1)]
theorem fl_Meter_2_len {v0 v1 : V} : (fl_Meter_2 v0 v1).length < 1000 := by show 2 < 1000; decide
theorem fl_Meter_2_new {v0 v1 : V} : putF "window" v1 (fl_Meter_1 v0) = fl_Meter_2 v0 v1 := by kernel_rfl
noncomputable def fl_Meter_3 (v0 v1 v2 : V) : List (Str × V) := [("most", v0), ("window", v1), ("knee", v2)]
theorem fl_Meter_3_len {v0 v1 v2 : V} : (fl_Meter_3 v0 v1 v2).length < 1000 := by show 3 < 1000; decide
theorem fl_Meter_3_new {v0 v1 v2 : V} : putF "knee" v2 (fl_Meter_2 v0 v1) = fl_Meter_3 v0 v1 v2 := by kernel_rfl
noncomputable def fl_Meter (v0 v1 v2 v3 : V) : List (Str × V) := [("most", v0), ("window", v1), ("knee", v2), ("counted", v3)]
theorem fl_Meter_new {v0 v1 v2 v3 : V} : putF "counted" v3 (fl_Meter_3 v0 v1 v2) = fl_Meter v0 v1 v2 v3 := by kernel_rfl
theorem fl_Meter_get_knee {v0 v1 v2 v3 : V} : (fl_Meter v0 v1 v2 v3).lookup ("knee" : Str) = some v2 := by kernel_rfl
noncomputable def fl_Ways_1 (v0 : V) : List (Str × V) := [("longest", v0)]
theorem fl_Ways_1_len {v0 : V} : (fl_Ways_1 v0).length < 1000 := by show 1 < 1000; decide
theorem fl_Ways_1_new {v0 : V} : putF "longest" v0 [] = fl_Ways_1 v0 := by kernel_rfl
noncomputable def fl_Ways_2 (v0 v1 : V) : List (Str × V) := [("longest", v0), ("smooth", v1)]
theorem fl_Ways_2_len {v0 v1 : V} : (fl_Ways_2 v0 v1).length < 1000 := by show 2 < 1000; decide
theorem fl_Ways_2_new {v0 v1 : V} : putF "smooth" v1 (fl_Ways_1 v0) = fl_Ways_2 v0 v1 := by kernel_rfl
noncomputable def fl_Ways_3 (v0 v1 v2 : V) : List (Str × V) := [("longest", v0), ("smooth", v1), ("spread", v2)]
theorem fl_Ways_3_len {v0 v1 v2 : V} : (fl_Ways_3 v0 v1 v2).length < 1000 := by show 3 < 1000; decide
theorem fl_Ways_3_new {v0 v1 v2 : V} : putF "spread" v2 (fl_Ways_2 v0 v1) = fl_Ways_3 v0 v1 v2 := by kernel_rfl
noncomputable def fl_Ways (v0 v1 v2 v3 : V) : List (Str × V) := [("longest", v0), ("smooth", v1), ("spread", v2), ("wait", v3)]
theorem fl_Ways_len {v0 v1 v2 v3 : V} : (fl_Ways v0 v1 v2 v3).length < 1000 := by show 4 < 1000; decide
theorem fl_Ways_new {v0 v1 v2 v3 : V} : putF "wait" v3 (fl_Ways_3 v0 v1 v2) = fl_Ways v0 v1 v2 v3 := by kernel_rfl
theorem fl_Ways_get_longest {v0 v1 v2 v3 : V} : (fl_Ways v0 v1 v2 v3).lookup ("longest" : Str) = some v0 := by kernel_rfl
theorem fl_Ways_get_wait {v0 v1 v2 v3 : V} : (fl_Ways v0 v1 v2 v3).lookup ("wait" : Str) = some v3 := by kernel_rfl
theorem fl_Ways_put_wait {x v0 v1 v2 v3 : V} : putF "wait" x (fl_Ways v0 v1 v2 v3) = fl_Ways v0 v1 v2 x := by kernel_rfl
theorem fl_Ways_no_ran_out {v0 v1 v2 v3 : V} : (fl_Ways v0 v1 v2 v3).lookup ("ran_out" : Str) = none := by kernel_rfl
noncomputable def fl_Sender_1 (v0 : V) : List (Str × V) := [("ring", v0)]
theorem fl_Sender_1_len {v0 : V} : (fl_Sender_1 v0).length < 1000 := by show 1 < 1000; decide
theorem fl_Sender_1_new {v0 : V} : putF "ring" v0 [] = fl_Sender_1 v0 := by kernel_rfl
noncomputable def fl_Sender_2 (v0 v1 : V) : List (Str × V) := [("ring", v0), ("ways", v1)]
theorem fl_Sender_2_len {v0 v1 : V} : (fl_Sender_2 v0 v1).length < 1000 := by show 2 < 1000; decide
theorem fl_Sender_2_new {v0 v1 : V} : putF "ways" v1 (fl_Sender_1 v0) = fl_Sender_2 v0 v1 := by kernel_rfl
noncomputable def fl_Sender_3 (v0 v1 v2 : V) : List (Str × V) := [("ring", v0), ("ways", v1), ("meter", v2)]
theorem fl_Sender_3_len {v0 v1 v2 : V} : (fl_Sender_3 v0 v1 v2).length < 1000 := by show 3 < 1000; decide
theorem fl_Sender_3_new {v0 v1 v2 : V} : putF "meter" v2 (fl_Sender_2 v0 v1) = fl_Sender_3 v0 v1 v2 := by kernel_rfl
noncomputable def fl_Sender_4 (v0 v1 v2 v3 : V) : List (Str × V) := [("ring", v0), ("ways", v1), ("meter", v2), ("things", v3)]
theorem fl_Sender_4_len {v0 v1 v2 v3 : V} : (fl_Sender_4 v0 v1 v2 v3).length < 1000 := by show 4 < 1000; decide
theorem fl_Sender_4_new {v0 v1 v2 v3 : V} : putF "things" v3 (fl_Sender_3 v0 v1 v2) = fl_Sender_4 v0 v1 v2 v3 := by kernel_rfl
noncomputable def fl_Sender_5 (v0 v1 v2 v3 v4 : V) : List (Str × V) := [("ring", v0), ("ways", v1), ("meter", v2), ("things", v3), ("base", v4)]
theorem fl_Sender_5_len {v0 v1 v2 v3 v4 : V} : (fl_Sender_5 v0 v1 v2 v3 v4).length < 1000 := by show 5 < 1000; decide
theorem fl_Sender_5_new {v0 v1 v2 v3 v4 : V} : putF "base" v4 (fl_Sender_4 v0 v1 v2 v3) = fl_Sender_5 v0 v1 v2 v3 v4 := by kernel_rfl
noncomputable def fl_Sender_6 (v0 v1 v2 v3 v4 v5 : V) : List (Str × V) := [("ring", v0), ("ways", v1), ("meter", v2), ("things", v3), ("base", v4), ("top", v5)]
theorem fl_Sender_6_len {v0 v1 v2 v3 v4 v5 : V} : (fl_Sender_6 v0 v1 v2 v3 v4 v5).length < 1000 := by show 6 < 1000; decide
theorem fl_Sender_6_new {v0 v1 v2 v3 v4 v5 : V} : putF "top" v5 (fl_Sender_5 v0 v1 v2 v3 v4) = fl_Sender_6 v0 v1 v2 v3 v4 v5 := by kernel_rfl
noncomputable def fl_Sender_7 (v0 v1 v2 v3 v4 v5 v6 : V) : List (Str × V) := [("ring", v0), ("ways", v1), ("meter", v2), ("things", v3), ("base", v4), ("top", v5), ("edge", v6)]
theorem fl_Sender_7_len {v0 v1 v2 v3 v4 v5 v6 : V} : (fl_Sender_7 v0 v1 v2 v3 v4 v5 v6).length < 1000 := by show 7 < 1000; decide
theorem fl_Sender_7_new {v0 v1 v2 v3 v4 v5 v6 : V} : putF "edge" v6 (fl_Sender_6 v0 v1 v2 v3 v4 v5) = fl_Sender_7 v0 v1 v2 v3 v4 v5 v6 := by kernel_rfl
noncomputable def fl_Sender_8 (v0 v1 v2 v3 v4 v5 v6 v7 : V) : List (Str × V) := [("ring", v0), ("ways", v1), ("meter", v2), ("things", v3), ("base", v4), ("top", v5), ("edge", v6), ("clock", v7)]
theorem fl_Sender_8_len {v0 v1 v2 v3 v4 v5 v6 v7 : V} : (fl_Sender_8 v0 v1 v2 v3 v4 v5 v6 v7).length < 1000 := by show 8 < 1000; decide
theorem fl_Sender_8_new {v0 v1 v2 v3 v4 v5 v6 v7 : V} : putF "clock" v7 (fl_Sender_7 v0 v1 v2 v3 v4 v5 v6) = fl_Sender_8 v0 v1 v2 v3 v4 v5 v6 v7 := by kernel_rfl
noncomputable def fl_Sender_9 (v0 v1 v2 v3 v4 v5 v6 v7 v8 : V) : List (Str × V) := [("ring", v0), ("ways", v1), ("meter", v2), ("things", v3), ("base", v4), ("top", v5), ("edge", v6), ("clock", v7), ("base_hurried", v8)]
theorem fl_Sender_9_len {v0 v1 v2 v3 v4 v5 v6 v7 v8 : V} : (fl_Sender_9 v0 v1 v2 v3 v4 v5 v6 v7 v8).length < 1000 := by show 9 < 1000; decide
theorem fl_Sender_9_new {v0 v1 v2 v3 v4 v5 v6 v7 v8 : V} : putF "base_hurried" v8 (fl_Sender_8 v0 v1 v2 v3 v4 v5 v6 v7) = fl_Sender_9 v0 v1 v2 v3 v4 v5 v6 v7 v8 := by kernel_rfl
noncomputable def fl_Sender_10 (v0 v1 v2 v3 v4 v5 v6 v7 v8 v9 : V) : List (Str × V) := [("ring", v0), ("ways", v1), ("meter", v2), ("things", v3), ("base", v4), ("top", v5), ("edge", v6), ("clock", v7), ("base_hurried", v8), ("known_places", v9)]
theorem fl_Sender_10_len {v0 v1 v2 v3 v4 v5 v6 v7 v8 v9 : V} : (fl_Sender_10 v0 v1 v2 v3 v4 v5 v6 v7 v8 v9).length < 1000 := by show 10 < 1000; decide
theorem fl_Sender_10_new {v0 v1 v2 v3 v4 v5 v6 v7 v8 v9 : V} : putF "known_places" v9 (fl_Sender_9 v0 v1 v2 v3 v4 v5 v6 v7 v8) = fl_Sender_10 v0 v1 v2 v3 v4 v5 v6 v7 v8 v9 := by kernel_rfl
noncomputable def fl_Sender_11 (v0 v1 v2 v3 v4 v5 v6 v7 v8 v9 v10 : V) : List (Str × V) := [("ring", v0), ("ways", v1), ("meter", v2), ("things", v3), ("base", v4), ("top", v5), ("edge", v6), ("clock", v7), ("base_hurried", v8), ("known_places", v9), ("first_turns", v10)]
theorem fl_Sender_11_len {v0 v1 v2 v3 v4 v5 v6 v7 v8 v9 v10 : V} : (fl_Sender_11 v0 v1 v2 v3 v4 v5 v6 v7 v8 v9 v10).length < 1000 := by show 11 < 1000; decide
theorem fl_Sender_11_new {v0 v1 v2 v3 v4 v5 v6 v7 v8 v9 v10 : V} : putF "first_turns" v10 (fl_Sender_10 v0 v1 v2 v3 v4 v5 v6 v7 v8 v9) = fl_Sender_11 v0 v1 v2 v3 v4 v5 v6 v7 v8 v9 v10 := by kernel_rfl
noncomputable def fl_Sender (v0 v1 v2 v3 v4 v5 v6 v7 v8 v9 v10 v11 : V) : List (Str × V) := [("ring", v0), ("ways", v1), ("meter", v2), ("things", v3), ("base", v4), ("top", v5), ("edge", v6), ("clock", v7), ("base_hurried", v8), ("known_places", v9), ("first_turns", v10), ("gone_again", v11)]
theorem fl_Sender_new {v0 v1 v2 v3 v4 v5 v6 v7 v8 v9 v10 v11 : V} : putF "gone_again" v11 (fl_Sender_11 v0 v1 v2 v3 v4 v5 v6 v7 v8 v9 v10) = fl_Sender v0 v1 v2 v3 v4 v5 v6 v7 v8 v9 v10 v11 := by kernel_rfl
theorem fl_Sender_get_ways {v0 v1 v2 v3 v4 v5 v6 v7 v8 v9 v10 v11 : V} : (fl_Sender v0 v1 v2 v3 v4 v5 v6 v7 v8 v9 v10 v11).lookup ("ways" : Str) = some v1 := by kernel_rfl
theorem fl_Sender_get_meter {v0 v1 v2 v3 v4 v5 v6 v7 v8 v9 v10 v11 : V} : (fl_Sender v0 v1 v2 v3 v4 v5 v6 v7 v8 v9 v10 v11).lookup ("meter" : Str) = some v2 := by kernel_rfl
theorem fl_Sender_get_things {v0 v1 v2 v3 v4 v5 v6 v7 v8 v9 v10 v11 : V} : (fl_Sender v0 v1 v2 v3 v4 v5 v6 v7 v8 v9 v10 v11).lookup ("things" : Str) = some v3 := by kernel_rfl
theorem fl_Sender_get_base {v0 v1 v2 v3 v4 v5 v6 v7 v8 v9 v10 v11 : V} : (fl_Sender v0 v1 v2 v3 v4 v5 v6 v7 v8 v9 v10 v11).lookup ("base" : Str) = some v4 := by kernel_rfl
theorem fl_Sender_get_top {v0 v1 v2 v3 v4 v5 v6 v7 v8 v9 v10 v11 : V} : (fl_Sender v0 v1 v2 v3 v4 v5 v6 v7 v8 v9 v10 v11).lookup ("top" : Str) = some v5 := by kernel_rfl
theorem fl_Sender_get_edge {v0 v1 v2 v3 v4 v5 v6 v7 v8 v9 v10 v11 : V} : (fl_Sender v0 v1 v2 v3 v4 v5 v6 v7 v8 v9 v10 v11).lookup ("edge" : Str) = some v6 := by kernel_rfl
theorem fl_Sender_no_put {v0 v1 v2 v3 v4 v5 v6 v7 v8 v9 v10 v11 : V} : (fl_Sender v0 v1 v2 v3 v4 v5 v6 v7 v8 v9 v10 v11).lookup ("put" : Str) = none := by kernel_rfl
theorem fl_Sender_no_many {v0 v1 v2 v3 v4 v5 v6 v7 v8 v9 v10 v11 : V} : (fl_Sender v0 v1 v2 v3 v4 v5 v6 v7 v8 v9 v10 v11).lookup ("many" : Str) = none := by kernel_rfl
theorem fl_Sender_no_thing {v0 v1 v2 v3 v4 v5 v6 v7 v8 v9 v10 v11 : V} : (fl_Sender v0 v1 v2 v3 v4 v5 v6 v7 v8 v9 v10 v11).lookup ("thing" : Str) = none := by kernel_rfl
noncomputable def fl_Taker_2 (v0 v1 : V) : List (Str × V) := [("ring", v0), ("room", v1)]
theorem fl_Taker_2_len {v0 v1 : V} : (fl_Taker_2 v0 v1).length < 1000 := by show 2 < 1000; decide
theorem fl_Taker_2_new {v0 v1 : V} : putF "room" v1 (fl_Sender_1 v0) = fl_Taker_2 v0 v1 := by kernel_rfl
noncomputable def fl_Taker_3 (v0 v1 v2 : V) : List (Str × V) := [("ring", v0), ("room", v1), ("got", v2)]
theorem fl_Taker_3_len {v0 v1 v2 : V} : (fl_Taker_3 v0 v1 v2).length < 1000 := by show 3 < 1000; decide
theorem fl_Taker_3_new {v0 v1 v2 : V} : putF "got" v2 (fl_Taker_2 v0 v1) = fl_Taker_3 v0 v1 v2 := by kernel_rfl
noncomputable def fl_Taker_4 (v0 v1 v2 v3 : V) : List (Str × V) := [("ring", v0), ("room", v1), ("got", v2), ("out", v3)]
theorem fl_Taker_4_len {v0 v1 v2 v3 : V} : (fl_Taker_4 v0 v1 v2 v3).length < 1000 := by show 4 < 1000; decide
theorem fl_Taker_4_new {v0 v1 v2 v3 : V} : putF "out" v3 (fl_Taker_3 v0 v1 v2) = fl_Taker_4 v0 v1 v2 v3 := by kernel_rfl
noncomputable def fl_Taker (v0 v1 v2 v3 v4 : V) : List (Str × V) := [("ring", v0), ("room", v1), ("got", v2), ("out", v3), ("kept", v4)]
theorem fl_Taker_new {v0 v1 v2 v3 v4 : V} : putF "kept" v4 (fl_Taker_4 v0 v1 v2 v3) = fl_Taker v0 v1 v2 v3 v4 := by kernel_rfl
theorem fl_Taker_get_ring {v0 v1 v2 v3 v4 : V} : (fl_Taker v0 v1 v2 v3 v4).lookup ("ring" : Str) = some v0 := by kernel_rfl
theorem fl_Taker_get_room {v0 v1 v2 v3 v4 : V} : (fl_Taker v0 v1 v2 v3 v4).lookup ("room" : Str) = some v1 := by kernel_rfl
theorem fl_Taker_get_got {v0 v1 v2 v3 v4 : V} : (fl_Taker v0 v1 v2 v3 v4).lookup ("got" : Str) = some v2 := by kernel_rfl
theorem fl_Taker_get_out {v0 v1 v2 v3 v4 : V} : (fl_Taker v0 v1 v2 v3 v4).lookup ("out" : Str) = some v3 := by kernel_rfl
theorem fl_Taker_get_kept {v0 v1 v2 v3 v4 : V} : (fl_Taker v0 v1 v2 v3 v4).lookup ("kept" : Str) = some v4 := by kernel_rfl
theorem fl_Taker_no_room_left {v0 v1 v2 v3 v4 : V} : (fl_Taker v0 v1 v2 v3 v4).lookup ("room_left" : Str) = none := by kernel_rfl
theorem fl_Taker_no_answer {v0 v1 v2 v3 v4 : V} : (fl_Taker v0 v1 v2 v3 v4).lookup ("answer" : Str) = none := by kernel_rfl
noncomputable def fl_Hand_1 (v0 : V) : List (Str × V) := [("side", v0)]
theorem fl_Hand_1_len {v0 : V} : (fl_Hand_1 v0).length < 1000 := by show 1 < 1000; decide
theorem fl_Hand_1_new {v0 : V} : putF "side" v0 [] = fl_Hand_1 v0 := by kernel_rfl
noncomputable def fl_Hand_2 (v0 v1 : V) : List (Str × V) := [("side", v0), ("ring", v1)]
theorem fl_Hand_2_len {v0 v1 : V} : (fl_Hand_2 v0 v1).length < 1000 := by show 2 < 1000; decide
theorem fl_Hand_2_new {v0 v1 : V} : putF "ring" v1 (fl_Hand_1 v0) = fl_Hand_2 v0 v1 := by kernel_rfl
noncomputable def fl_Hand_3 (v0 v1 v2 : V) : List (Str × V) := [("side", v0), ("ring", v1), ("taker", v2)]
theorem fl_Hand_3_len {v0 v1 v2 : V} : (fl_Hand_3 v0 v1 v2).length < 1000 := by show 3 < 1000; decide
theorem fl_Hand_3_new {v0 v1 v2 : V} : putF "taker" v2 (fl_Hand_2 v0 v1) = fl_Hand_3 v0 v1 v2 := by kernel_rfl
noncomputable def fl_Hand_4 (v0 v1 v2 v3 : V) : List (Str × V) := [("side", v0), ("ring", v1), ("taker", v2), ("sender", v3)]
theorem fl_Hand_4_len {v0 v1 v2 v3 : V} : (fl_Hand_4 v0 v1 v2 v3).length < 1000 := by show 4 < 1000; decide
theorem fl_Hand_4_new {v0 v1 v2 v3 : V} : putF "sender" v3 (fl_Hand_3 v0 v1 v2) = fl_Hand_4 v0 v1 v2 v3 := by kernel_rfl
noncomputable def fl_Hand_5 (v0 v1 v2 v3 v4 : V) : List (Str × V) := [("side", v0), ("ring", v1), ("taker", v2), ("sender", v3), ("state", v4)]
theorem fl_Hand_5_len {v0 v1 v2 v3 v4 : V} : (fl_Hand_5 v0 v1 v2 v3 v4).length < 1000 := by show 5 < 1000; decide
theorem fl_Hand_5_new {v0 v1 v2 v3 v4 : V} : putF "state" v4 (fl_Hand_4 v0 v1 v2 v3) = fl_Hand_5 v0 v1 v2 v3 v4 := by kernel_rfl
noncomputable def fl_Hand_6 (v0 v1 v2 v3 v4 v5 : V) : List (Str × V) := [("side", v0), ("ring", v1), ("taker", v2), ("sender", v3), ("state", v4), ("answer_due", v5)]
theorem fl_Hand_6_len {v0 v1 v2 v3 v4 v5 : V} : (fl_Hand_6 v0 v1 v2 v3 v4 v5).length < 1000 := by show 6 < 1000; decide
theorem fl_Hand_6_new {v0 v1 v2 v3 v4 v5 : V} : putF "answer_due" v5 (fl_Hand_5 v0 v1 v2 v3 v4) = fl_Hand_6 v0 v1 v2 v3 v4 v5 := by kernel_rfl
noncomputable def fl_Hand (v0 v1 v2 v3 v4 v5 v6 : V) : List (Str × V) := [("side", v0), ("ring", v1), ("taker", v2), ("sender", v3), ("state", v4), ("answer_due", v5), ("end_places", v6)]
theorem fl_Hand_len {v0 v1 v2 v3 v4 v5 v6 : V} : (fl_Hand v0 v1 v2 v3 v4 v5 v6).length < 1000 := by show 7 < 1000; decide
theorem fl_Hand_new {v0 v1 v2 v3 v4 v5 v6 : V} : putF "end_places" v6 (fl_Hand_6 v0 v1 v2 v3 v4 v5) = fl_Hand v0 v1 v2 v3 v4 v5 v6 := by kernel_rfl
theorem fl_Hand_get_side {v0 v1 v2 v3 v4 v5 v6 : V} : (fl_Hand v0 v1 v2 v3 v4 v5 v6).lookup ("side" : Str) = some v0 := by kernel_rfl
theorem fl_Hand_get_taker {v0 v1 v2 v3 v4 v5 v6 : V} : (fl_Hand v0 v1 v2 v3 v4 v5 v6).lookup ("taker" : Str) = some v2 := by kernel_rfl
theorem fl_Hand_get_sender {v0 v1 v2 v3 v4 v5 v6 : V} : (fl_Hand v0 v1 v2 v3 v4 v5 v6).lookup ("sender" : Str) = some v3 := by kernel_rfl
theorem fl_Hand_get_state {v0 v1 v2 v3 v4 v5 v6 : V} : (fl_Hand v0 v1 v2 v3 v4 v5 v6).lookup ("state" : Str) = some v4 := by kernel_rfl
theorem fl_Hand_get_answer_due {v0 v1 v2 v3 v4 v5 v6 : V} : (fl_Hand v0 v1 v2 v3 v4 v5 v6).lookup ("answer_due" : Str) = some v5 := by kernel_rfl
theorem fl_Hand_get_end_places {v0 v1 v2 v3 v4 v5 v6 : V} : (fl_Hand v0 v1 v2 v3 v4 v5 v6).lookup ("end_places" : Str) = some v6 := by kernel_rfl
theorem fl_Hand_put_state {x v0 v1 v2 v3 v4 v5 v6 : V} : putF "state" x (fl_Hand v0 v1 v2 v3 v4 v5 v6) = fl_Hand v0 v1 v2 v3 x v5 v6 := by kernel_rfl
theorem fl_Hand_no_name {v0 v1 v2 v3 v4 v5 v6 : V} : (fl_Hand v0 v1 v2 v3 v4 v5 v6).lookup ("name" : Str) = none := by kernel_rfl
theorem fl_Hand_no_begin {v0 v1 v2 v3 v4 v5 v6 : V} : (fl_Hand v0 v1 v2 v3 v4 v5 v6).lookup ("begin" : Str) = none := by kernel_rfl
theorem fl_Hand_no_end {v0 v1 v2 v3 v4 v5 v6 : V} : (fl_Hand v0 v1 v2 v3 v4 v5 v6).lookup ("end" : Str) = none := by kernel_rfl
theorem fl_Hand_no_put {v0 v1 v2 v3 v4 v5 v6 : V} : (fl_Hand v0 v1 v2 v3 v4 v5 v6).lookup ("put" : Str) = none := by kernel_rfl
theorem fl_Hand_no_quiet {v0 v1 v2 v3 v4 v5 v6 : V} : (fl_Hand v0 v1 v2 v3 v4 v5 v6).lookup ("quiet" : Str) = none := by kernel_rfl
noncomputable def fl_Terms_2 (v0 v1 : V) : List (Str × V) := [("ring", v0), ("rooms", v1)]
theorem fl_Terms_2_len {v0 v1 : V} : (fl_Terms_2 v0 v1).length < 1000 := by show 2 < 1000; decide
theorem fl_Terms_2_new {v0 v1 : V} : putF "rooms" v1 (fl_Sender_1 v0) = fl_Terms_2 v0 v1 := by kernel_rfl
noncomputable def fl_Terms_3 (v0 v1 v2 : V) : List (Str × V) := [("ring", v0), ("rooms", v1), ("lag", v2)]
theorem fl_Terms_3_len {v0 v1 v2 : V} : (fl_Terms_3 v0 v1 v2).length < 1000 := by show 3 < 1000; decide
theorem fl_Terms_3_new {v0 v1 v2 : V} : putF "lag" v2 (fl_Terms_2 v0 v1) = fl_Terms_3 v0 v1 v2 := by kernel_rfl
noncomputable def fl_Terms_4 (v0 v1 v2 v3 : V) : List (Str × V) := [("ring", v0), ("rooms", v1), ("lag", v2), ("first", v3)]
theorem fl_Terms_4_len {v0 v1 v2 v3 : V} : (fl_Terms_4 v0 v1 v2 v3).length < 1000 := by show 4 < 1000; decide
theorem fl_Terms_4_new {v0 v1 v2 v3 : V} : putF "first" v3 (fl_Terms_3 v0 v1 v2) = fl_Terms_4 v0 v1 v2 v3 := by kernel_rfl
noncomputable def fl_Terms (v0 v1 v2 v3 v4 : V) : List (Str × V) := [("ring", v0), ("rooms", v1), ("lag", v2), ("first", v3), ("longest", v4)]
theorem fl_Terms_new {v0 v1 v2 v3 v4 : V} : putF "longest" v4 (fl_Terms_4 v0 v1 v2 v3) = fl_Terms v0 v1 v2 v3 v4 := by kernel_rfl
theorem fl_Terms_get_ring {v0 v1 v2 v3 v4 : V} : (fl_Terms v0 v1 v2 v3 v4).lookup ("ring" : Str) = some v0 := by kernel_rfl
theorem fl_Terms_get_rooms {v0 v1 v2 v3 v4 : V} : (fl_Terms v0 v1 v2 v3 v4).lookup ("rooms" : Str) = some v1 := by kernel_rfl
theorem fl_Terms_get_first {v0 v1 v2 v3 v4 : V} : (fl_Terms v0 v1 v2 v3 v4).lookup ("first" : Str) = some v3 := by kernel_rfl
theorem fl_Terms_get_longest {v0 v1 v2 v3 v4 : V} : (fl_Terms v0 v1 v2 v3 v4).lookup ("longest" : Str) = some v4 := by kernel_rfl
structure Txt (K : PySem.W.Frag) (mg : Str → Option Value) (C_Meter C_Ways C_Sender C_Taker C_Hand C_Terms C_RoadError C_NoPiece C_BadTerms C_NotWide C_BadText C_NotNow C_State C_Shut C_Calling C_Leaving : Addr) : Prop where
 k_Meter : KlsAt K mg "Meter" C_Meter
 n_Meter_most : NoAttr K C_Meter "most"
 n_Meter_window : NoAttr K C_Meter "window"
 n_Meter_knee : NoAttr K C_Meter "knee"
 n_Meter_counted : NoAttr K C_Meter "counted"
 k_Ways : KlsAt K mg "Ways" C_Ways
 n_Ways_longest : NoAttr K C_Ways "longest"
 n_Ways_smooth : NoAttr K C_Ways "smooth"
 n_Ways_spread : NoAttr K C_Ways "spread"
 n_Ways_wait : NoAttr K C_Ways "wait"
 k_Sender : KlsAt K mg "Sender" C_Sender
 n_Sender_ring : NoAttr K C_Sender "ring"
 n_Sender_ways : NoAttr K C_Sender "ways"
 n_Sender_meter : NoAttr K C_Sender "meter"
 n_Sender_things : NoAttr K C_Sender "things"
 n_Sender_base : NoAttr K C_Sender "base"
 n_Sender_top : NoAttr K C_Sender "top"
 n_Sender_edge : NoAttr K C_Sender "edge"
 n_Sender_clock : NoAttr K C_Sender "clock"
 n_Sender_base_hurried : NoAttr K C_Sender "base_hurried"
 n_Sender_known_places : NoAttr K C_Sender "known_places"
 n_Sender_first_turns : NoAttr K C_Sender "first_turns"
 n_Sender_gone_again : NoAttr K C_Sender "gone_again"
 k_Taker : KlsAt K mg "Taker" C_Taker
 n_Taker_ring : NoAttr K C_Taker "ring"
 n_Taker_room : NoAttr K C_Taker "room"
 n_Taker_got : NoAttr K C_Taker "got"
 n_Taker_out : NoAttr K C_Taker "out"
 n_Taker_kept : NoAttr K C_Taker "kept"
 k_Hand : KlsAt K mg "Hand" C_Hand
 n_Hand_side : NoAttr K C_Hand "side"
 n_Hand_ring : NoAttr K C_Hand "ring"
 n_Hand_taker : NoAttr K C_Hand "taker"
 n_Hand_sender : NoAttr K C_Hand "sender"
 n_Hand_state : NoAttr K C_Hand "state"
 n_Hand_answer_due : NoAttr K C_Hand "answer_due"
 n_Hand_end_places : NoAttr K C_Hand "end_places"
 k_Terms : KlsAt K mg "Terms" C_Terms
 n_Terms_ring : NoAttr K C_Terms "ring"
 n_Terms_rooms : NoAttr K C_Terms "rooms"
 n_Terms_lag : NoAttr K C_Terms "lag"
 n_Terms_first : NoAttr K C_Terms "first"
 n_Terms_longest : NoAttr K C_Terms "longest"
 xm_RoadError : XmAt K mg "RoadError" C_RoadError
 xm_NoPiece : XmAt K mg "NoPiece" C_NoPiece
 xm_BadTerms : XmAt K mg "BadTerms" C_BadTerms
 xm_NotWide : XmAt K mg "NotWide" C_NotWide
 xm_BadText : XmAt K mg "BadText" C_BadText
 xm_NotNow : XmAt K mg "NotNow" C_NotNow
 x_NoPiece : XcI K mg "NoPiece" C_NoPiece C_RoadError
 g_NoPiece : XgAt K C_NoPiece
 kp_NoPiece : PySem.W.keepIn K (.ref C_NoPiece) = true
 xf_NoPiece_what : XfAt K C_NoPiece "what"
 qv_NoPiece : PySem.W.kitOne K (.ref C_NoPiece) (.type "ValueError") = some true
 q_NoPiece_RoadError : PySem.W.kitOne K (.ref C_NoPiece) (.ref C_RoadError) = some true
 m_NoPiece_RoadError : isx K (.ref C_NoPiece) C_RoadError = some true
 q_NoPiece_NoPiece : PySem.W.kitOne K (.ref C_NoPiece) (.ref C_NoPiece) = some true
 m_NoPiece_NoPiece : isx K (.ref C_NoPiece) C_NoPiece = some true
 q_NoPiece_BadTerms : PySem.W.kitOne K (.ref C_NoPiece) (.ref C_BadTerms) = some false
 m_NoPiece_BadTerms : isx K (.ref C_NoPiece) C_BadTerms = some false
 q_NoPiece_NotWide : PySem.W.kitOne K (.ref C_NoPiece) (.ref C_NotWide) = some false
 m_NoPiece_NotWide : isx K (.ref C_NoPiece) C_NotWide = some false
 q_NoPiece_BadText : PySem.W.kitOne K (.ref C_NoPiece) (.ref C_BadText) = some false
 m_NoPiece_BadText : isx K (.ref C_NoPiece) C_BadText = some false
 q_NoPiece_NotNow : PySem.W.kitOne K (.ref C_NoPiece) (.ref C_NotNow) = some false
 m_NoPiece_NotNow : isx K (.ref C_NoPiece) C_NotNow = some false
 x_BadTerms : XcAt K mg "BadTerms" C_BadTerms C_RoadError none
 g_BadTerms : XgAt K C_BadTerms
 qv_BadTerms : PySem.W.kitOne K (.ref C_BadTerms) (.type "ValueError") = some true
 q_BadTerms_RoadError : PySem.W.kitOne K (.ref C_BadTerms) (.ref C_RoadError) = some true
 m_BadTerms_RoadError : isx K (.ref C_BadTerms) C_RoadError = some true
 q_BadTerms_NoPiece : PySem.W.kitOne K (.ref C_BadTerms) (.ref C_NoPiece) = some false
 m_BadTerms_NoPiece : isx K (.ref C_BadTerms) C_NoPiece = some false
 q_BadTerms_BadTerms : PySem.W.kitOne K (.ref C_BadTerms) (.ref C_BadTerms) = some true
 m_BadTerms_BadTerms : isx K (.ref C_BadTerms) C_BadTerms = some true
 q_BadTerms_NotWide : PySem.W.kitOne K (.ref C_BadTerms) (.ref C_NotWide) = some false
 m_BadTerms_NotWide : isx K (.ref C_BadTerms) C_NotWide = some false
 q_BadTerms_BadText : PySem.W.kitOne K (.ref C_BadTerms) (.ref C_BadText) = some false
 m_BadTerms_BadText : isx K (.ref C_BadTerms) C_BadText = some false
 q_BadTerms_NotNow : PySem.W.kitOne K (.ref C_BadTerms) (.ref C_NotNow) = some false
 m_BadTerms_NotNow : isx K (.ref C_BadTerms) C_NotNow = some false
 x_NotWide : XcI K mg "NotWide" C_NotWide C_RoadError
 g_NotWide : XgAt K C_NotWide
 kp_NotWide : PySem.W.keepIn K (.ref C_NotWide) = true
 xf_NotWide_least : XfAt K C_NotWide "least"
 qv_NotWide : PySem.W.kitOne K (.ref C_NotWide) (.type "ValueError") = some true
 q_NotWide_RoadError : PySem.W.kitOne K (.ref C_NotWide) (.ref C_RoadError) = some true
 m_NotWide_RoadError : isx K (.ref C_NotWide) C_RoadError = some true
 q_NotWide_NoPiece : PySem.W.kitOne K (.ref C_NotWide) (.ref C_NoPiece) = some false
 m_NotWide_NoPiece : isx K (.ref C_NotWide) C_NoPiece = some false
 q_NotWide_BadTerms : PySem.W.kitOne K (.ref C_NotWide) (.ref C_BadTerms) = some false
 m_NotWide_BadTerms : isx K (.ref C_NotWide) C_BadTerms = some false
 q_NotWide_NotWide : PySem.W.kitOne K (.ref C_NotWide) (.ref C_NotWide) = some true
 m_NotWide_NotWide : isx K (.ref C_NotWide) C_NotWide = some true
 q_NotWide_BadText : PySem.W.kitOne K (.ref C_NotWide) (.ref C_BadText) = some false
 m_NotWide_BadText : isx K (.ref C_NotWide) C_BadText = some false
 q_NotWide_NotNow : PySem.W.kitOne K (.ref C_NotWide) (.ref C_NotNow) = some false
 m_NotWide_NotNow : isx K (.ref C_NotWide) C_NotNow = some false
 x_BadText : XcAt K mg "BadText" C_BadText C_RoadError none
 g_BadText : XgAt K C_BadText
 qv_BadText : PySem.W.kitOne K (.ref C_BadText) (.type "ValueError") = some true
 q_BadText_RoadError : PySem.W.kitOne K (.ref C_BadText) (.ref C_RoadError) = some true
 m_BadText_RoadError : isx K (.ref C_BadText) C_RoadError = some true
 q_BadText_NoPiece : PySem.W.kitOne K (.ref C_BadText) (.ref C_NoPiece) = some false
 m_BadText_NoPiece : isx K (.ref C_BadText) C_NoPiece = some false
 q_BadText_BadTerms : PySem.W.kitOne K (.ref C_BadText) (.ref C_BadTerms) = some false
 m_BadText_BadTerms : isx K (.ref C_BadText) C_BadTerms = some false
 q_BadText_NotWide : PySem.W.kitOne K (.ref C_BadText) (.ref C_NotWide) = some false
 m_BadText_NotWide : isx K (.ref C_BadText) C_NotWide = some false
 q_BadText_BadText : PySem.W.kitOne K (.ref C_BadText) (.ref C_BadText) = some true
 m_BadText_BadText : isx K (.ref C_BadText) C_BadText = some true
 q_BadText_NotNow : PySem.W.kitOne K (.ref C_BadText) (.ref C_NotNow) = some false
 m_BadText_NotNow : isx K (.ref C_BadText) C_NotNow = some false
 x_NotNow : XcI K mg "NotNow" C_NotNow C_RoadError
 g_NotNow : XgAt K C_NotNow
 kp_NotNow : PySem.W.keepIn K (.ref C_NotNow) = true
 xf_NotNow_state : XfAt K C_NotNow "state"
 xf_NotNow_wish : XfAt K C_NotNow "wish"
 qv_NotNow : PySem.W.kitOne K (.ref C_NotNow) (.type "ValueError") = some true
 q_NotNow_RoadError : PySem.W.kitOne K (.ref C_NotNow) (.ref C_RoadError) = some true
 m_NotNow_RoadError : isx K (.ref C_NotNow) C_RoadError = some true
 q_NotNow_NoPiece : PySem.W.kitOne K (.ref C_NotNow) (.ref C_NoPiece) = some false
 m_NotNow_NoPiece : isx K (.ref C_NotNow) C_NoPiece = some false
 q_NotNow_BadTerms : PySem.W.kitOne K (.ref C_NotNow) (.ref C_BadTerms) = some false
 m_NotNow_BadTerms : isx K (.ref C_NotNow) C_BadTerms = some false
 q_NotNow_NotWide : PySem.W.kitOne K (.ref C_NotNow) (.ref C_NotWide) = some false
 m_NotNow_NotWide : isx K (.ref C_NotNow) C_NotWide = some false
 q_NotNow_BadText : PySem.W.kitOne K (.ref C_NotNow) (.ref C_BadText) = some false
 m_NotNow_BadText : isx K (.ref C_NotNow) C_BadText = some false
 q_NotNow_NotNow : PySem.W.kitOne K (.ref C_NotNow) (.ref C_NotNow) = some true
 m_NotNow_NotNow : isx K (.ref C_NotNow) C_NotNow = some true
 k_State : KlsAt K mg "State" C_State
 k_Shut : KlsAt K mg "Shut" C_Shut
 k_Calling : KlsAt K mg "Calling" C_Calling
 k_Leaving : KlsAt K mg "Leaving" C_Leaving
 ni_Shut : NoIni K C_Shut
 di_Shut_wish_end : MethAt K C_Shut "wish_end" "State.wish_end" s_State_wish_end
 di_Shut_may_put : MethAt K C_Shut "may_put" "State.may_put" s_State_may_put
 ni_Calling : NoIni K C_Calling
 di_Calling_wish_begin : MethAt K C_Calling "wish_begin" "State.wish_begin" s_State_wish_begin
 ni_Leaving : NoIni K C_Leaving
 di_Leaving_wish_begin : MethAt K C_Leaving "wish_begin" "State.wish_begin" s_State_wish_begin
 di_Leaving_wish_end : MethAt K C_Leaving "wish_end" "State.wish_end" s_State_wish_end
 di_Leaving_may_put : MethAt K C_Leaving "may_put" "State.may_put" s_State_may_put
 d_NotWide___init__ : MethAt K C_NotWide "__init__" "NotWide.__init__" s_NotWide___init__
 d_NotNow___init__ : MethAt K C_NotNow "__init__" "NotNow.__init__" s_NotNow___init__
 d_is_from : DefAt K mg "is_from" s_is_from
 d_Meter___init__ : MethAt K C_Meter "__init__" "Meter.__init__" s_Meter___init__
 d_Ways___init__ : MethAt K C_Ways "__init__" "Ways.__init__" s_Ways___init__
 d_Ways_ran_out : MethAt K C_Ways "ran_out" "Ways.ran_out" s_Ways_ran_out
 d_Sender___init__ : MethAt K C_Sender "__init__" "Sender.__init__" s_Sender___init__
 d_Sender_put : MethAt K C_Sender "put" "Sender.put" s_Sender_put
 d_Sender_many : MethAt K C_Sender "many" "Sender.many" s_Sender_many
 d_Sender_thing : MethAt K C_Sender "thing" "Sender.thing" s_Sender_thing
 d_Shut_name : MethAt K C_Shut "name" "Shut.name" s_Shut_name
 d_Shut_wish_begin : MethAt K C_Shut "wish_begin" "Shut.wish_begin" s_Shut_wish_begin
 d_Calling_name : MethAt K C_Calling "name" "Calling.name" s_Calling_name
 d_Calling_wish_end : MethAt K C_Calling "wish_end" "Calling.wish_end" s_Calling_wish_end
 d_Calling_may_put : MethAt K C_Calling "may_put" "Calling.may_put" s_Calling_may_put
 d_Leaving_name : MethAt K C_Leaving "name" "Leaving.name" s_Leaving_name
 d_Taker___init__ : MethAt K C_Taker "__init__" "Taker.__init__" s_Taker___init__
 d_Taker_room_left : MethAt K C_Taker "room_left" "Taker.room_left" s_Taker_room_left
 d_Taker_answer : MethAt K C_Taker "answer" "Taker.answer" s_Taker_answer
 d_is_text : DefAt K mg "is_text" s_is_text
 d_Hand___init__ : MethAt K C_Hand "__init__" "Hand.__init__" s_Hand___init__
 d_Hand_name : MethAt K C_Hand "name" "Hand.name" s_Hand_name
 d_Hand_begin : MethAt K C_Hand "begin" "Hand.begin" s_Hand_begin
 d_Hand_end : MethAt K C_Hand "end" "Hand.end" s_Hand_end
 d_Hand_put : MethAt K C_Hand "put" "Hand.put" s_Hand_put
 d_Hand_quiet : MethAt K C_Hand "quiet" "Hand.quiet" s_Hand_quiet
 d_need : DefAt K mg "need" s_need
 d_are_rooms : DefAt K mg "are_rooms" s_are_rooms
 d_are_waits : DefAt K mg "are_waits" s_are_waits
 d_Terms___init__ : MethAt K C_Terms "__init__" "Terms.__init__" s_Terms___init__
 d__law_cell_at : DefAt K mg "_law_cell_at" s__law_cell_at
 d__law_mixed : DefAt K mg "_law_mixed" s__law_mixed
 d__law_terms : DefAt K mg "_law_terms" s__law_terms
 d__law_text : DefAt K mg "_law_text" s__law_text
 d__law_bad_text : DefAt K mg "_law_bad_text" s__law_bad_text
 d__law_bad : DefAt K mg "_law_bad" s__law_bad
 d__law_wished : DefAt K mg "_law_wished" s__law_wished
 d__law_after : DefAt K mg "_law_after" s__law_after
 d__law_put : DefAt K mg "_law_put" s__law_put
 d__law_made_by : DefAt K mg "_law_made_by" s__law_made_by
 d__law_step : DefAt K mg "_law_step" s__law_step
 d_law : DefAt K mg "law" s_law
 b_ValueError : mg "ValueError" = none
 b_all : mg "all" = none
 b_bool : mg "bool" = none
 b_int : mg "int" = none
 b_isinstance : mg "isinstance" = none
 b_len : mg "len" = none
 b_max : mg "max" = none
 b_min : mg "min" = none
 b_range : mg "range" = none
 b_str : mg "str" = none
 b_tuple : mg "tuple" = none
 c_SIGNS : CstAt mg "SIGNS" (.str " !\"#$&'()*+,-./0123456789:;<=>?@ABCDEFGHIJKLMNOPQRSTUVWXYZ[\\]^_`abcdefghijklmnopqrstuvwxyz{|}~")
 c_SIGNS_MOST : CstAt mg "SIGNS_MOST" (.int 4)
 c_TEXT_MOST : CstAt mg "TEXT_MOST" (.int 60)
 c_BEGIN : TupAt K mg "BEGIN" [.str "begin", .str ""]
 c_END : TupAt K mg "END" [.str "end", .str ""]
 c_RING_MOST : CstAt mg "RING_MOST" (.int 64)
 c_ROOM_MOST_terms : CstAt mg "ROOM_MOST_terms" (.int 16)
 c_LAG_MOST : CstAt mg "LAG_MOST" (.int 32)
 c_WAIT_LEAST : CstAt mg "WAIT_LEAST" (.int 2)
 c_WAIT_MOST : CstAt mg "WAIT_MOST" (.int 64)
noncomputable section
open PySem W
abbrev Ob := Obj
abbrev Pm := Params
abbrev q (x : String) (k : Nat) : Value := .str (Str.ofString x) k
abbrev tp (x : List Value) : Obj := ⟨.type "tuple", none, .seq x.toArray, #[]⟩
abbrev fm (n m : String) (t : Stmt) := FuncData.mk (Str.ofString n) (Str.ofString m) (L2.defArgs t) (.stmts (L2.defBody t)) (L2.defScope t)
abbrev cd (n : String) (a : Nat) (m : String) (b c : Nat) (l d e f g : Int) (r : Nat) (o : Bool) (k : Int) (s : Nat) (v w x y : Value) (i : Int) (z : Nat) : Ob := ⟨.type "code",none,.fields #[q n a,q m b,q "/claim/cut.py" c,.int l 0,.int d 0,.int e 0,.int f 0,.int g 0,.ref r,.bool o,.int k 0,.ref s,v,w,x,y,.int i 0,.int l 0,q "/claim/cut.py" z],#[]⟩
abbrev f0 (n m : String) (t : Stmt) : Ob := ⟨.none,none,.func (fm n m t 0 [] .none .none .none .none none .none .none 0),#[]⟩
abbrev f1 (n m : String) (t : Stmt) (c : Nat) (v : Value) (r : Nat) : Ob := ⟨.type "function",none,.func (fm n m t c [] .none .none .none v none (.ref r) .none 0),#[]⟩
abbrev den (P : Params) (x : String) (k : Nat) (v : Value) : DictEntry := DictEntry.mk (PyData.keyHash P (Str.ofString x)) (Value.str (Str.ofString x) k) v
def up : List Ob → BT → Nat → BT
 | [], t, _ => t
 | o :: r, t, n => up r (t.ins n o) (n+1)
def ch : List (Nat × Ob) → BT → BT
 | [], t => t
 | p :: r, t => ch r (t.ins p.1 p.2)
def mdl (P : Pm) : List DictEntry := [den P "__doc__" 166 .none,den P "__package__" 167 .none,den P "__loader__" 168 (.builtin "__main__.__loader__#opaque"),den P "__spec__" 169 .none,den P "__annotations__" 170 (.ref 6),den P "__builtins__" 171 (.ref 4),den P "__file__" 173 (q "/claim/cut.py" 172),den P "__cached__" 174 .none,den P "_wall" 193 (.ref 21),den P "RoadError" 213 (.ref 31),den P "NoPiece" 238 (.ref 51),den P "BadTerms" 254 (.ref 63),den P "NotWide" 279 (.ref 82),den P "BadText" 295 (.ref 94),den P "NotNow" 322 (.ref 113),den P "is_from" 333 (.ref 122),den P "KINDS" 341 (.ref 123),den P "SIGNS" 343 (q " !\"#$&'()*+,-./0123456789:;<=>?@ABCDEFGHIJKLMNOPQRSTUVWXYZ[\\]^_`abcdefghijklmnopqrstuvwxyz{|}~" 342),den P "UNNUMBERED" 346 (.ref 124),den P "NUMBER_MOST" 348 (.int 63 347),den P "ROOM_MOST_pieces" 350 (.int 16 349),den P "HELD_MOST" 352 (.int 15 351),den P "SIGNS_MOST" 354 (.int 4 353),den P "CHECK_BITS" 356 (.int 8 355),den P "DIVISOR" 358 (.int 263 357),den P "DIVISOR_BITS" 360 (.int 9 359),den P "REMAINDER_MOST" 362 (.int 255 361),den P "is_piece" 370 (.ref 131),den P "is_held" 379 (.ref 138),den P "are_signs" 385 (.ref 143),den P "remainder" 393 (.ref 150),den P "written" 401 (.ref 157),den P "body_of" 409 (.ref 164),den P "bits_of_held" 415 (.ref 169),den P "bits_of_signs" 424 (.ref 176),den P "Meter" 494 (.ref 228),den P "Ways" 567 (.ref 284),den P "KNOWN_TO_HURRY" 571 (.int 2 570),den P "Sender" 755 (.ref 429),den P "State" 826 (.ref 492),den P "Shut" 863 (.ref 527),den P "Calling" 907 (.ref 567),den P "Leaving" 944 (.ref 600),den P "Taker" 1019 (.ref 652),den P "TEXT_MOST" 1023 (.int 60 1022),den P "BEGIN" 1026 (.ref 657),den P "END" 1029 (.ref 658),den P "is_text" 1035 (.ref 663),den P "Hand" 1175 (.ref 764),den P "need" 1185 (.ref 775),den P "RING_MOST" 1189 (.int 64 1188),den P "ROOM_MOST_terms" 1191 (.int 16 1190),den P "LAG_MOST" 1193 (.int 32 1192),den P "WAIT_LEAST" 1195 (.int 2 1194),den P "WAIT_MOST" 1197 (.int 64 1196),den P "are_rooms" 1203 (.ref 780),den P "are_waits" 1211 (.ref 787),den P "Terms" 1242 (.ref 802),den P "_law_cell_at" 1252 (.ref 813),den P "_law_mixed" 1262 (.ref 820),den P "_law_terms" 1268 (.ref 825),den P "_law_text" 1279 (.ref 832),den P "_law_bad_text" 1288 (.ref 839),den P "_law_bad" 1298 (.ref 846),den P "_law_wished" 1310 (.ref 853),den P "_law_after" 1318 (.ref 860),den P "_law_put" 1329 (.ref 867),den P "_law_made_by" 1340 (.ref 874),den P "_law_step" 1346 (.ref 879),den P "law" 1360 (.ref 886)]
abbrev md (P : Pm) (v : Value) (k n : Nat) : Ob := ⟨.type "dict",none,.dict ⟨den P "__name__" 165 v :: (mdl P).take k⟩ n,#[]⟩
def ltl : List Value := [.int 1 0,.int 0 0,.ref 20,.int 5 0,.int 0 0,.ref 27,.int 7 0,.int 0 0,.ref 40,.int 11 0,.int 0 0,.ref 59,.int 13 0,.int 0 0,.ref 71,.int 17 0,.int 0 0,.ref 90,.int 19 0,.int 0 0,.ref 102,.int 25 0,.int 0 0,.ref 121,.int 39 0,.int 0 0,.ref 130,.int 44 0,.int 0 0,.ref 137,.int 53 0,.int 0 0,.ref 142,.int 59 0,.int 0 0,.ref 149,.int 64 0,.int 0 0,.ref 156,.int 69 0,.int 0 0,.ref 163,.int 77 0,.int 0 0,.ref 168,.int 79 0,.int 0 0,.ref 175,.int 85 0,.int 0 0,.ref 182,.int 112 0,.int 0 0,.ref 238,.int 136 0,.int 0 0,.ref 294,.int 232 0,.int 0 0,.ref 439,.int 254 0,.int 0 0,.ref 502,.int 264 0,.int 0 0,.ref 535,.int 277 0,.int 0 0,.ref 575,.int 288 0,.int 0 0,.ref 608,.int 320 0,.int 0 0,.ref 662,.int 322 0,.int 0 0,.ref 669,.int 391 0,.int 0 0,.ref 774,.int 399 0,.int 0 0,.ref 779,.int 401 0,.int 0 0,.ref 786,.int 403 0,.int 0 0,.ref 793,.int 419 0,.int 0 0,.ref 812,.int 423 0,.int 0 0,.ref 819,.int 430 0,.int 0 0,.ref 824,.int 442 0,.int 0 0,.ref 831,.int 449 0,.int 0 0,.ref 838,.int 457 0,.int 0 0,.ref 845,.int 466 0,.int 0 0,.ref 852,.int 481 0,.int 0 0,.ref 859,.int 489 0,.int 0 0,.ref 866,.int 498 0,.int 0 0,.ref 873,.int 508 0,.int 0 0,.ref 878,.int 528 0,.int 0 0,.ref 885]
abbrev lt (k : Nat) : Ob := ⟨.none,none,.fields ⟨ltl.take k⟩,#[]⟩
abbrev sO (x : String) : Str := Str.ofString x
def o11:Ob:=tp []
def o12:Ob:=⟨.none,none,.fields #[],#[]⟩
def o13:Ob:=cd "<module>" 182 "<module>" 183 184 1 0 0 0 0 11 false 181 12 .none .none .none .none 185 186
def o14:Ob:=⟨.type "frame",none,.plain,#[some (.ref 13),some (.ref 3),some (.ref 3),none,some (q "__main__" 164),none,some (.ref 0)]⟩
def o15(P:Pm):Ob:=md P (q "slowroad.errors" 194) 12 13
def o16:Ob:=lt 12
def o19:Ob:=tp [q "k" 190]
def o21:Ob:=f0 "_wall" "_wall" (top 0)
def o22:Ob:=cd "_wall" 187 "_wall" 188 189 1 1 0 0 3 15 true 181 16 .none (.ref 17) (.ref 18) (.ref 19) 191 192
def o23:Ob:=f1 "_wall" "_wall" (top 0) 3 (q "__main__" 164) 20
def o24:Ob:=tp [.type "ValueError"]
def o25:Ob:=⟨.type "builtin_function_or_method",none,.fields #[.builtin "type.__prepare__",.type "type"],#[]⟩
def o26(P:Pm):Ob:=⟨.type "dict",none,.dict #[den P "__module__" 203 (q "slowroad.errors" 194),den P "__qualname__" 205 (q "RoadError" 204),den P "__firstlineno__" 207 (.int 5 206),den P "__static_attributes__" 208 (.ref 29)] 4,#[]⟩
def o29:Ob:=cd "RoadError" 198 "RoadError" 199 200 5 0 0 0 0 25 false 181 26 .none .none .none .none 201 202
def o30:Ob:=⟨.type "frame",none,.plain,#[some (.ref 27),some (.ref 3),some (.ref 24),none,some (q "slowroad.errors" 194),none,some (.ref 0)]⟩
def o32(P:Pm):Ob:=⟨.type "dict",none,.dict #[den P "__module__" 203 (q "slowroad.errors" 194),den P "__firstlineno__" 207 (.int 5 206),den P "__static_attributes__" 208 (.ref 29),den P "__weakref__" 210 (.ref 32),den P "__doc__" 211 .none] 3,#[]⟩
def o33:Ob:=⟨.type "type",none,.cls (.mk (sO "RoadError") [.type "ValueError"] [.ref 31,.type "ValueError",.type "Exception",.type "BaseException",.type "object"] 30 (sO "RoadError") true [] [.ref 51,.ref 63] false none false),#[some (.ref 22),none,some (q "RoadError" 196),some (q "RoadError" 204),some (.builtin "ValueError.__new__"),some (.bool true)]⟩
def o34:Ob:=⟨.type "getset_descriptor",none,.fields #[q "__weakref__" 209,.ref 31,.builtin "ExceptionGroup.__weakref__",.none],#[]⟩
def o35:Ob:=⟨.type "super",none,.fields #[.ref 31,.ref 31,.ref 31],#[]⟩
def o36:Ob:=⟨.type "builtin_function_or_method",none,.fields #[.builtin "object.__init_subclass__",.ref 31],#[]⟩
def o37:Ob:=tp [.ref 31]
def o39(P:Pm):Ob:=⟨.type "dict",none,.dict #[den P "__module__" 221 (q "slowroad.errors" 194),den P "__qualname__" 223 (q "NoPiece" 222),den P "__firstlineno__" 225 (.int 7 224),den P "__init__" 233 (.ref 48),den P "__static_attributes__" 235 (.ref 49)] 5,#[]⟩
def o41:Ob:=⟨.none,none,.fields #[.int 9 0,.int 4 0,.ref 47],#[]⟩
def o42:Ob:=cd "NoPiece" 216 "NoPiece" 217 218 7 0 0 0 0 38 false 181 39 .none .none .none .none 219 220
def o43:Ob:=⟨.type "frame",none,.plain,#[some (.ref 40),some (.ref 3),some (.ref 37),none,some (q "slowroad.errors" 194),none,some (.ref 0)]⟩
def o46:Ob:=tp [q "self" 229,q "what" 230]
def o48:Ob:=f0 "__init__" "NoPiece.__init__" (inClass (top 3) 0)
def o49:Ob:=cd "__init__" 226 "NoPiece.__init__" 227 228 9 2 0 0 3 42 true 181 43 .none (.ref 44) (.ref 45) (.ref 46) 231 232
def o50:Ob:=f1 "__init__" "NoPiece.__init__" (inClass (top 3) 0) 3 (q "slowroad.errors" 194) 47
def o51:Ob:=tp [q "what" 234]
def o52(P:Pm):Ob:=⟨.type "dict",none,.dict #[den P "__module__" 221 (q "slowroad.errors" 194),den P "__firstlineno__" 225 (.int 7 224),den P "__init__" 233 (.ref 48),den P "__static_attributes__" 235 (.ref 49),den P "__doc__" 236 .none] 2,#[]⟩
def o53:Ob:=⟨.type "type",none,.cls (.mk (sO "NoPiece") [.ref 31] [.ref 51,.ref 31,.type "ValueError",.type "Exception",.type "BaseException",.type "object"] 50 (sO "NoPiece") true [] [] false none false),#[some (.ref 35),none,some (q "NoPiece" 214),some (q "NoPiece" 222),some (.builtin "ValueError.__new__"),some (.bool true)]⟩
def o54:Ob:=⟨.type "super",none,.fields #[.ref 51,.ref 51,.ref 51],#[]⟩
def o55:Ob:=⟨.type "builtin_function_or_method",none,.fields #[.builtin "object.__init_subclass__",.ref 51],#[]⟩
def o58(P:Pm):Ob:=⟨.type "dict",none,.dict #[den P "__module__" 246 (q "slowroad.errors" 194),den P "__qualname__" 248 (q "BadTerms" 247),den P "__firstlineno__" 250 (.int 11 249),den P "__static_attributes__" 251 (.ref 61)] 4,#[]⟩
def o61:Ob:=cd "BadTerms" 241 "BadTerms" 242 243 11 0 0 0 0 57 false 181 58 .none .none .none .none 244 245
def o62:Ob:=⟨.type "frame",none,.plain,#[some (.ref 59),some (.ref 3),some (.ref 56),none,some (q "slowroad.errors" 194),none,some (.ref 0)]⟩
def o64(P:Pm):Ob:=⟨.type "dict",none,.dict #[den P "__module__" 246 (q "slowroad.errors" 194),den P "__firstlineno__" 250 (.int 11 249),den P "__static_attributes__" 251 (.ref 61),den P "__doc__" 252 .none] 2,#[]⟩
def o65:Ob:=⟨.type "type",none,.cls (.mk (sO "BadTerms") [.ref 31] [.ref 63,.ref 31,.type "ValueError",.type "Exception",.type "BaseException",.type "object"] 62 (sO "BadTerms") true [] [] false none false),#[some (.ref 54),none,some (q "BadTerms" 239),some (q "BadTerms" 247),some (.builtin "ValueError.__new__"),some (.bool true)]⟩
def o66:Ob:=⟨.type "super",none,.fields #[.ref 63,.ref 63,.ref 63],#[]⟩
def o67:Ob:=⟨.type "builtin_function_or_method",none,.fields #[.builtin "object.__init_subclass__",.ref 63],#[]⟩
def o68(P:Pm):Ob:=md P (q "slowroad.errors" 194) 14 15
def o69:Ob:=lt 18
def o70:Ob:=⟨.type "type",none,.cls (.mk (sO "RoadError") [.type "ValueError"] [.ref 31,.type "ValueError",.type "Exception",.type "BaseException",.type "object"] 30 (sO "RoadError") true [] [.ref 51,.ref 63,.ref 82,.ref 94] false none false),#[some (.ref 22),none,some (q "RoadError" 196),some (q "RoadError" 204),some (.builtin "ValueError.__new__"),some (.bool true)]⟩
def o73(P:Pm):Ob:=⟨.type "dict",none,.dict #[den P "__module__" 262 (q "slowroad.errors" 194),den P "__qualname__" 264 (q "NotWide" 263),den P "__firstlineno__" 266 (.int 13 265),den P "__init__" 274 (.ref 79),den P "__static_attributes__" 276 (.ref 80)] 5,#[]⟩
def o75:Ob:=⟨.none,none,.fields #[.int 15 0,.int 4 0,.ref 78],#[]⟩
def o76:Ob:=cd "NotWide" 257 "NotWide" 258 259 13 0 0 0 0 69 false 181 70 .none .none .none .none 260 261
def o77:Ob:=⟨.type "frame",none,.plain,#[some (.ref 71),some (.ref 3),some (.ref 68),none,some (q "slowroad.errors" 194),none,some (.ref 0)]⟩
def o80:Ob:=tp [q "self" 270,q "least" 271]
def o82:Ob:=f0 "__init__" "NotWide.__init__" (inClass (top 5) 0)
def o83:Ob:=cd "__init__" 267 "NotWide.__init__" 268 269 15 2 0 0 3 73 true 181 74 .none (.ref 75) (.ref 76) (.ref 77) 272 273
def o84:Ob:=f1 "__init__" "NotWide.__init__" (inClass (top 5) 0) 3 (q "slowroad.errors" 194) 78
def o85:Ob:=tp [q "least" 275]
def o86(P:Pm):Ob:=⟨.type "dict",none,.dict #[den P "__module__" 262 (q "slowroad.errors" 194),den P "__firstlineno__" 266 (.int 13 265),den P "__init__" 274 (.ref 79),den P "__static_attributes__" 276 (.ref 80),den P "__doc__" 277 .none] 2,#[]⟩
def o87:Ob:=⟨.type "type",none,.cls (.mk (sO "NotWide") [.ref 31] [.ref 82,.ref 31,.type "ValueError",.type "Exception",.type "BaseException",.type "object"] 81 (sO "NotWide") true [] [] false none false),#[some (.ref 66),none,some (q "NotWide" 255),some (q "NotWide" 263),some (.builtin "ValueError.__new__"),some (.bool true)]⟩
def o88:Ob:=⟨.type "super",none,.fields #[.ref 82,.ref 82,.ref 82],#[]⟩
def o89:Ob:=⟨.type "builtin_function_or_method",none,.fields #[.builtin "object.__init_subclass__",.ref 82],#[]⟩
def o92(P:Pm):Ob:=⟨.type "dict",none,.dict #[den P "__module__" 287 (q "slowroad.errors" 194),den P "__qualname__" 289 (q "BadText" 288),den P "__firstlineno__" 291 (.int 17 290),den P "__static_attributes__" 292 (.ref 92)] 4,#[]⟩
def o95:Ob:=cd "BadText" 282 "BadText" 283 284 17 0 0 0 0 88 false 181 89 .none .none .none .none 285 286
def o96:Ob:=⟨.type "frame",none,.plain,#[some (.ref 90),some (.ref 3),some (.ref 87),none,some (q "slowroad.errors" 194),none,some (.ref 0)]⟩
def o98(P:Pm):Ob:=⟨.type "dict",none,.dict #[den P "__module__" 287 (q "slowroad.errors" 194),den P "__firstlineno__" 291 (.int 17 290),den P "__static_attributes__" 292 (.ref 92),den P "__doc__" 293 .none] 2,#[]⟩
def o99:Ob:=⟨.type "type",none,.cls (.mk (sO "BadText") [.ref 31] [.ref 94,.ref 31,.type "ValueError",.type "Exception",.type "BaseException",.type "object"] 93 (sO "BadText") true [] [] false none false),#[some (.ref 85),none,some (q "BadText" 280),some (q "BadText" 288),some (.builtin "ValueError.__new__"),some (.bool true)]⟩
def o100:Ob:=⟨.type "super",none,.fields #[.ref 94,.ref 94,.ref 94],#[]⟩
def o101:Ob:=⟨.type "builtin_function_or_method",none,.fields #[.builtin "object.__init_subclass__",.ref 94],#[]⟩
def o102(P:Pm):Ob:=md P (q "slowroad.meter" 425) 35 36
def o103:Ob:=lt 48
def o104:Ob:=⟨.type "type",none,.cls (.mk (sO "RoadError") [.type "ValueError"] [.ref 31,.type "ValueError",.type "Exception",.type "BaseException",.type "object"] 30 (sO "RoadError") true [] [.ref 51,.ref 63,.ref 82,.ref 94,.ref 113] false none false),#[some (.ref 22),none,some (q "RoadError" 196),some (q "RoadError" 204),some (.builtin "ValueError.__new__"),some (.bool true)]⟩
def o107(P:Pm):Ob:=⟨.type "dict",none,.dict #[den P "__module__" 303 (q "slowroad.errors" 194),den P "__qualname__" 305 (q "NotNow" 304),den P "__firstlineno__" 307 (.int 19 306),den P "__init__" 316 (.ref 110),den P "__static_attributes__" 319 (.ref 111)] 5,#[]⟩
def o109:Ob:=⟨.none,none,.fields #[.int 21 0,.int 4 0,.ref 109],#[]⟩
def o110:Ob:=cd "NotNow" 298 "NotNow" 299 300 19 0 0 0 0 100 false 181 101 .none .none .none .none 301 302
def o111:Ob:=⟨.type "frame",none,.plain,#[some (.ref 102),some (.ref 3),some (.ref 99),none,some (q "slowroad.errors" 194),none,some (.ref 0)]⟩
def o114:Ob:=tp [q "self" 311,q "state" 312,q "wish" 313]
def o116:Ob:=f0 "__init__" "NotNow.__init__" (inClass (top 7) 0)
def o117:Ob:=cd "__init__" 308 "NotNow.__init__" 309 310 21 3 0 0 3 104 true 181 105 .none (.ref 106) (.ref 107) (.ref 108) 314 315
def o118:Ob:=f1 "__init__" "NotNow.__init__" (inClass (top 7) 0) 3 (q "slowroad.errors" 194) 109
def o119:Ob:=tp [q "state" 317,q "wish" 318]
def o120(P:Pm):Ob:=⟨.type "dict",none,.dict #[den P "__module__" 303 (q "slowroad.errors" 194),den P "__firstlineno__" 307 (.int 19 306),den P "__init__" 316 (.ref 110),den P "__static_attributes__" 319 (.ref 111),den P "__doc__" 320 .none] 2,#[]⟩
def o121:Ob:=⟨.type "type",none,.cls (.mk (sO "NotNow") [.ref 31] [.ref 113,.ref 31,.type "ValueError",.type "Exception",.type "BaseException",.type "object"] 112 (sO "NotNow") true [] [] false none false),#[some (.ref 97),none,some (q "NotNow" 296),some (q "NotNow" 304),some (.builtin "ValueError.__new__"),some (.bool true)]⟩
def o122:Ob:=⟨.type "super",none,.fields #[.ref 113,.ref 113,.ref 113],#[]⟩
def o123:Ob:=⟨.type "builtin_function_or_method",none,.fields #[.builtin "object.__init_subclass__",.ref 113],#[]⟩
def o126:Ob:=tp [q "value" 328,q "low" 329,q "high" 330]
def o128:Ob:=f0 "is_from" "is_from" (top 9)
def o129:Ob:=cd "is_from" 325 "is_from" 326 327 25 3 0 0 3 116 true 181 117 .none (.ref 118) (.ref 119) (.ref 120) 331 332
def o130:Ob:=f1 "is_from" "is_from" (top 9) 3 (q "slowroad.bounds" 323) 121
def o131:Ob:=tp [q "bare" 336,q "signs" 337,q "begin" 338,q "end" 339,q "ask" 340]
def o132:Ob:=tp [q "bare" 344,q "ask" 345]
def o135:Ob:=tp [q "thing" 366,q "kind" 367]
def o137:Ob:=f0 "is_piece" "is_piece" (top 22)
def o138:Ob:=cd "is_piece" 363 "is_piece" 364 365 39 1 0 0 3 125 true 181 126 .none (.ref 127) (.ref 128) (.ref 129) 368 369
def o139:Ob:=f1 "is_piece" "is_piece" (top 22) 3 (q "slowroad.pieces" 334) 130
def o142:Ob:=tp [q "held" 374,q "last" 375,q "step" 376]
def o144:Ob:=f0 "is_held" "is_held" (top 23)
def o145:Ob:=cd "is_held" 371 "is_held" 372 373 44 1 0 0 3 132 true 181 133 .none (.ref 134) (.ref 135) (.ref 136) 377 378
def o146:Ob:=f1 "is_held" "is_held" (top 23) 3 (q "slowroad.pieces" 334) 137
def o149:Ob:=f0 "are_signs" "are_signs" (top 24)
def o150:Ob:=cd "are_signs" 380 "are_signs" 381 382 53 2 0 0 3 139 true 181 140 .none .none .none (.ref 141) 383 384
def o151:Ob:=f1 "are_signs" "are_signs" (top 24) 3 (q "slowroad.pieces" 334) 142
def o154:Ob:=tp [q "bits" 389,q "left" 390]
def o156:Ob:=f0 "remainder" "remainder" (top 25)
def o157:Ob:=cd "remainder" 386 "remainder" 387 388 59 1 0 0 3 144 true 181 145 .none (.ref 146) (.ref 147) (.ref 148) 391 392
def o158:Ob:=f1 "remainder" "remainder" (top 25) 3 (q "slowroad.pieces" 334) 149
def o161:Ob:=tp [q "piece" 397,q "unchecked" 398]
def o163:Ob:=f0 "written" "written" (top 26)
def o164:Ob:=cd "written" 394 "written" 395 396 64 1 0 0 3 151 true 181 152 .none (.ref 153) (.ref 154) (.ref 155) 399 400
def o165:Ob:=f1 "written" "written" (top 26) 3 (q "slowroad.pieces" 334) 156
def o168:Ob:=tp [q "piece" 405,q "body" 406]
def o170:Ob:=f0 "body_of" "body_of" (top 27)
def o171:Ob:=cd "body_of" 402 "body_of" 403 404 69 1 0 0 3 158 true 181 159 .none (.ref 160) (.ref 161) (.ref 162) 407 408
def o172:Ob:=f1 "body_of" "body_of" (top 27) 3 (q "slowroad.pieces" 334) 163
def o175:Ob:=f0 "bits_of_held" "bits_of_held" (top 28)
def o176:Ob:=cd "bits_of_held" 410 "bits_of_held" 411 412 77 1 0 0 3 165 true 181 166 .none .none .none (.ref 167) 413 414
def o177:Ob:=f1 "bits_of_held" "bits_of_held" (top 28) 3 (q "slowroad.pieces" 334) 168
def o180:Ob:=tp [q "signs" 419,q "bits" 420,q "sign" 421]
def o182:Ob:=f0 "bits_of_signs" "bits_of_signs" (top 29)
def o183:Ob:=cd "bits_of_signs" 416 "bits_of_signs" 417 418 79 1 0 0 3 170 true 181 171 .none (.ref 172) (.ref 173) (.ref 174) 422 423
def o184:Ob:=f1 "bits_of_signs" "bits_of_signs" (top 29) 3 (q "slowroad.pieces" 334) 175
def o185(P:Pm):Ob:=md P (q "slowroad.ways" 495) 36 37
def o186:Ob:=lt 51
def o189(P:Pm):Ob:=⟨.type "dict",none,.dict #[den P "__module__" 434 (q "slowroad.meter" 425),den P "__qualname__" 436 (q "Meter" 435),den P "__firstlineno__" 438 (.int 85 437),den P "__init__" 446 (.ref 190),den P "known" 454 (.ref 197),den P "know_one" 461 (.ref 204),den P "half" 468 (.ref 211),den P "ran_out" 475 (.ref 218),den P "hurried" 482 (.ref 225),den P "__static_attributes__" 487 (.ref 226)] 10,#[]⟩
def o191:Ob:=⟨.none,none,.fields #[.int 87 0,.int 4 0,.ref 189,.int 93 0,.int 4 0,.ref 196,.int 96 0,.int 4 0,.ref 203,.int 99 0,.int 4 0,.ref 210,.int 102 0,.int 4 0,.ref 217,.int 107 0,.int 4 0,.ref 224],#[]⟩
def o192:Ob:=cd "Meter" 429 "Meter" 430 431 85 0 0 0 0 180 false 181 181 .none .none .none .none 432 433
def o193:Ob:=⟨.type "frame",none,.plain,#[some (.ref 182),some (.ref 3),some (.ref 179),none,some (q "slowroad.meter" 425),none,some (.ref 0)]⟩
def o196:Ob:=tp [q "self" 442,q "most" 443]
def o198:Ob:=f0 "__init__" "Meter.__init__" (inClass (top 31) 0)
def o199:Ob:=cd "__init__" 439 "Meter.__init__" 440 441 87 2 0 0 3 184 true 181 185 .none (.ref 186) (.ref 187) (.ref 188) 444 445
def o200:Ob:=f1 "__init__" "Meter.__init__" (inClass (top 31) 0) 3 (q "slowroad.meter" 425) 189
def o203:Ob:=tp [q "self" 450,q "many" 451]
def o205:Ob:=f0 "known" "Meter.known" (inClass (top 31) 1)
def o206:Ob:=cd "known" 447 "Meter.known" 448 449 93 2 0 0 3 191 true 181 192 .none (.ref 193) (.ref 194) (.ref 195) 452 453
def o207:Ob:=f1 "known" "Meter.known" (inClass (top 31) 1) 3 (q "slowroad.meter" 425) 196
def o210:Ob:=tp [q "self" 458]
def o212:Ob:=f0 "know_one" "Meter.know_one" (inClass (top 31) 2)
def o213:Ob:=cd "know_one" 455 "Meter.know_one" 456 457 96 1 0 0 3 198 true 181 199 .none (.ref 200) (.ref 201) (.ref 202) 459 460
def o214:Ob:=f1 "know_one" "Meter.know_one" (inClass (top 31) 2) 3 (q "slowroad.meter" 425) 203
def o217:Ob:=tp [q "self" 465]
def o219:Ob:=f0 "half" "Meter.half" (inClass (top 31) 3)
def o220:Ob:=cd "half" 462 "Meter.half" 463 464 99 1 0 0 3 205 true 181 206 .none (.ref 207) (.ref 208) (.ref 209) 466 467
def o221:Ob:=f1 "half" "Meter.half" (inClass (top 31) 3) 3 (q "slowroad.meter" 425) 210
def o224:Ob:=tp [q "self" 472]
def o226:Ob:=f0 "ran_out" "Meter.ran_out" (inClass (top 31) 4)
def o227:Ob:=cd "ran_out" 469 "Meter.ran_out" 470 471 102 1 0 0 3 212 true 181 213 .none (.ref 214) (.ref 215) (.ref 216) 473 474
def o228:Ob:=f1 "ran_out" "Meter.ran_out" (inClass (top 31) 4) 3 (q "slowroad.meter" 425) 217
def o231:Ob:=tp [q "self" 479]
def o233:Ob:=f0 "hurried" "Meter.hurried" (inClass (top 31) 5)
def o234:Ob:=cd "hurried" 476 "Meter.hurried" 477 478 107 1 0 0 3 219 true 181 220 .none (.ref 221) (.ref 222) (.ref 223) 480 481
def o235:Ob:=f1 "hurried" "Meter.hurried" (inClass (top 31) 5) 3 (q "slowroad.meter" 425) 224
def o236:Ob:=tp [q "counted" 483,q "knee" 484,q "most" 485,q "window" 486]
def o237(P:Pm):Ob:=⟨.type "dict",none,.dict #[den P "__module__" 434 (q "slowroad.meter" 425),den P "__firstlineno__" 438 (.int 85 437),den P "__init__" 446 (.ref 190),den P "known" 454 (.ref 197),den P "know_one" 461 (.ref 204),den P "half" 468 (.ref 211),den P "ran_out" 475 (.ref 218),den P "hurried" 482 (.ref 225),den P "__static_attributes__" 487 (.ref 226),den P "__dict__" 489 (.ref 229),den P "__weakref__" 491 (.ref 230),den P "__doc__" 492 .none] 4,#[]⟩
def o238:Ob:=⟨.type "type",none,.cls (.mk (sO "Meter") [.type "object"] [.ref 228,.type "object"] 227 (sO "Meter") true [] [] false none false),#[none,none,some (q "Meter" 427),some (q "Meter" 435),some (.builtin "object.__new__"),some (.bool true)]⟩
def o239:Ob:=⟨.type "getset_descriptor",none,.fields #[q "__dict__" 488,.ref 228,.builtin "function.__dict__",.builtin "function.__dict__#set"],#[]⟩
def o240:Ob:=⟨.type "getset_descriptor",none,.fields #[q "__weakref__" 490,.ref 228,.builtin "ExceptionGroup.__weakref__",.none],#[]⟩
def o241:Ob:=⟨.type "super",none,.fields #[.ref 228,.ref 228,.ref 228],#[]⟩
def o242:Ob:=⟨.type "builtin_function_or_method",none,.fields #[.builtin "object.__init_subclass__",.ref 228],#[]⟩
def o243(P:Pm):Ob:=md P (q "slowroad.sender" 568) 38 39
def o244:Ob:=lt 54
def o247(P:Pm):Ob:=⟨.type "dict",none,.dict #[den P "__module__" 504 (q "slowroad.ways" 495),den P "__qualname__" 506 (q "Ways" 505),den P "__firstlineno__" 508 (.int 112 507),den P "__init__" 517 (.ref 246),den P "measured" 525 (.ref 253),den P "next_spread" 533 (.ref 260),den P "next_smooth" 541 (.ref 267),den P "least_wait" 548 (.ref 274),den P "ran_out" 555 (.ref 281),den P "__static_attributes__" 560 (.ref 282)] 10,#[]⟩
def o249:Ob:=⟨.none,none,.fields #[.int 114 0,.int 4 0,.ref 245,.int 120 0,.int 4 0,.ref 252,.int 123 0,.int 4 0,.ref 259,.int 126 0,.int 4 0,.ref 266,.int 129 0,.int 4 0,.ref 273,.int 132 0,.int 4 0,.ref 280],#[]⟩
def o250:Ob:=cd "Ways" 499 "Ways" 500 501 112 0 0 0 0 236 false 181 237 .none .none .none .none 502 503
def o251:Ob:=⟨.type "frame",none,.plain,#[some (.ref 238),some (.ref 3),some (.ref 235),none,some (q "slowroad.ways" 495),none,some (.ref 0)]⟩
def o254:Ob:=tp [q "self" 512,q "first" 513,q "longest" 514]
def o256:Ob:=f0 "__init__" "Ways.__init__" (inClass (top 33) 0)
def o257:Ob:=cd "__init__" 509 "Ways.__init__" 510 511 114 3 0 0 3 240 true 181 241 .none (.ref 242) (.ref 243) (.ref 244) 515 516
def o258:Ob:=f1 "__init__" "Ways.__init__" (inClass (top 33) 0) 3 (q "slowroad.ways" 495) 245
def o261:Ob:=tp [q "self" 521,q "m" 522]
def o263:Ob:=f0 "measured" "Ways.measured" (inClass (top 33) 1)
def o264:Ob:=cd "measured" 518 "Ways.measured" 519 520 120 2 0 0 3 247 true 181 248 .none (.ref 249) (.ref 250) (.ref 251) 523 524
def o265:Ob:=f1 "measured" "Ways.measured" (inClass (top 33) 1) 3 (q "slowroad.ways" 495) 252
def o268:Ob:=tp [q "self" 529,q "m" 530]
def o270:Ob:=f0 "next_spread" "Ways.next_spread" (inClass (top 33) 2)
def o271:Ob:=cd "next_spread" 526 "Ways.next_spread" 527 528 123 2 0 0 3 254 true 181 255 .none (.ref 256) (.ref 257) (.ref 258) 531 532
def o272:Ob:=f1 "next_spread" "Ways.next_spread" (inClass (top 33) 2) 3 (q "slowroad.ways" 495) 259
def o275:Ob:=tp [q "self" 537,q "m" 538]
def o277:Ob:=f0 "next_smooth" "Ways.next_smooth" (inClass (top 33) 3)
def o278:Ob:=cd "next_smooth" 534 "Ways.next_smooth" 535 536 126 2 0 0 3 261 true 181 262 .none (.ref 263) (.ref 264) (.ref 265) 539 540
def o279:Ob:=f1 "next_smooth" "Ways.next_smooth" (inClass (top 33) 3) 3 (q "slowroad.ways" 495) 266
def o282:Ob:=tp [q "self" 545]
def o284:Ob:=f0 "least_wait" "Ways.least_wait" (inClass (top 33) 4)
def o285:Ob:=cd "least_wait" 542 "Ways.least_wait" 543 544 129 1 0 0 3 268 true 181 269 .none (.ref 270) (.ref 271) (.ref 272) 546 547
def o286:Ob:=f1 "least_wait" "Ways.least_wait" (inClass (top 33) 4) 3 (q "slowroad.ways" 495) 273
def o289:Ob:=tp [q "self" 552]
def o291:Ob:=f0 "ran_out" "Ways.ran_out" (inClass (top 33) 5)
def o292:Ob:=cd "ran_out" 549 "Ways.ran_out" 550 551 132 1 0 0 3 275 true 181 276 .none (.ref 277) (.ref 278) (.ref 279) 553 554
def o293:Ob:=f1 "ran_out" "Ways.ran_out" (inClass (top 33) 5) 3 (q "slowroad.ways" 495) 280
def o294:Ob:=tp [q "longest" 556,q "smooth" 557,q "spread" 558,q "wait" 559]
def o295(P:Pm):Ob:=⟨.type "dict",none,.dict #[den P "__module__" 504 (q "slowroad.ways" 495),den P "__firstlineno__" 508 (.int 112 507),den P "__init__" 517 (.ref 246),den P "measured" 525 (.ref 253),den P "next_spread" 533 (.ref 260),den P "next_smooth" 541 (.ref 267),den P "least_wait" 548 (.ref 274),den P "ran_out" 555 (.ref 281),den P "__static_attributes__" 560 (.ref 282),den P "__dict__" 562 (.ref 285),den P "__weakref__" 564 (.ref 286),den P "__doc__" 565 .none] 4,#[]⟩
def o296:Ob:=⟨.type "type",none,.cls (.mk (sO "Ways") [.type "object"] [.ref 284,.type "object"] 283 (sO "Ways") true [] [] false none false),#[none,none,some (q "Ways" 497),some (q "Ways" 505),some (.builtin "object.__new__"),some (.bool true)]⟩
def o297:Ob:=⟨.type "getset_descriptor",none,.fields #[q "__dict__" 561,.ref 284,.builtin "function.__dict__",.builtin "function.__dict__#set"],#[]⟩
def o298:Ob:=⟨.type "getset_descriptor",none,.fields #[q "__weakref__" 563,.ref 284,.builtin "ExceptionGroup.__weakref__",.none],#[]⟩
def o299:Ob:=⟨.type "super",none,.fields #[.ref 284,.ref 284,.ref 284],#[]⟩
def o300:Ob:=⟨.type "builtin_function_or_method",none,.fields #[.builtin "object.__init_subclass__",.ref 284],#[]⟩
def o301(P:Pm):Ob:=md P (q "slowroad.sender" 568) 39 40
def o302:Ob:=lt 57
def o305(P:Pm):Ob:=⟨.type "dict",none,.dict #[den P "__module__" 579 (q "slowroad.sender" 568),den P "__qualname__" 581 (q "Sender" 580),den P "__firstlineno__" 583 (.int 136 582),den P "__init__" 594 (.ref 302),den P "put" 602 (.ref 309),den P "many" 609 (.ref 316),den P "thing" 617 (.ref 323),den P "heard" 628 (.ref 330),den P "grow_base" 636 (.ref 337),den P "note_held" 644 (.ref 344),den P "newly_known" 652 (.ref 351),den P "known_above_base" 658 (.ref 356),den P "under_way" 665 (.ref 363),den P "thing_waits" 672 (.ref 370),den P "clock_is_out" 680 (.ref 377),den P "hurry_is_due" 687 (.ref 384),den P "new_may_go" 694 (.ref 391),den P "go" 702 (.ref 398),den P "set_clock" 710 (.ref 405),den P "go_again" 718 (.ref 412),den P "go_new" 727 (.ref 419),den P "ask_for_room" 735 (.ref 426),den P "__static_attributes__" 748 (.ref 427)] 23,#[]⟩
def o307:Ob:=⟨.none,none,.fields #[.int 138 0,.int 4 0,.ref 301,.int 152 0,.int 4 0,.ref 308,.int 155 0,.int 4 0,.ref 315,.int 158 0,.int 4 0,.ref 322,.int 161 0,.int 4 0,.ref 329,.int 164 0,.int 4 0,.ref 336,.int 167 0,.int 4 0,.ref 343,.int 170 0,.int 4 0,.ref 350,.int 173 0,.int 4 0,.ref 355,.int 176 0,.int 4 0,.ref 362,.int 179 0,.int 4 0,.ref 369,.int 182 0,.int 4 0,.ref 376,.int 185 0,.int 4 0,.ref 383,.int 188 0,.int 4 0,.ref 390,.int 191 0,.int 4 0,.ref 397,.int 205 0,.int 4 0,.ref 404,.int 208 0,.int 4 0,.ref 411,.int 214 0,.int 4 0,.ref 418,.int 222 0,.int 4 0,.ref 425],#[]⟩
def o308:Ob:=cd "Sender" 574 "Sender" 575 576 136 0 0 0 0 292 false 181 293 .none .none .none .none 577 578
def o309:Ob:=⟨.type "frame",none,.plain,#[some (.ref 294),some (.ref 3),some (.ref 291),none,some (q "slowroad.sender" 568),none,some (.ref 0)]⟩
def o312:Ob:=tp [q "self" 587,q "ring" 588,q "first" 589,q "longest" 590,q "most" 591]
def o314:Ob:=f0 "__init__" "Sender.__init__" (inClass (top 36) 0)
def o315:Ob:=cd "__init__" 584 "Sender.__init__" 585 586 138 5 0 0 3 296 true 181 297 .none (.ref 298) (.ref 299) (.ref 300) 592 593
def o316:Ob:=f1 "__init__" "Sender.__init__" (inClass (top 36) 0) 3 (q "slowroad.sender" 568) 301
def o319:Ob:=tp [q "self" 598,q "thing" 599]
def o321:Ob:=f0 "put" "Sender.put" (inClass (top 36) 1)
def o322:Ob:=cd "put" 595 "Sender.put" 596 597 152 2 0 0 3 303 true 181 304 .none (.ref 305) (.ref 306) (.ref 307) 600 601
def o323:Ob:=f1 "put" "Sender.put" (inClass (top 36) 1) 3 (q "slowroad.sender" 568) 308
def o326:Ob:=tp [q "self" 606]
def o328:Ob:=f0 "many" "Sender.many" (inClass (top 36) 2)
def o329:Ob:=cd "many" 603 "Sender.many" 604 605 155 1 0 0 3 310 true 181 311 .none (.ref 312) (.ref 313) (.ref 314) 607 608
def o330:Ob:=f1 "many" "Sender.many" (inClass (top 36) 2) 3 (q "slowroad.sender" 568) 315
def o333:Ob:=tp [q "self" 613,q "place" 614]
def o335:Ob:=f0 "thing" "Sender.thing" (inClass (top 36) 3)
def o336:Ob:=cd "thing" 610 "Sender.thing" 611 612 158 2 0 0 3 317 true 181 318 .none (.ref 319) (.ref 320) (.ref 321) 615 616
def o337:Ob:=f1 "thing" "Sender.thing" (inClass (top 36) 3) 3 (q "slowroad.sender" 568) 322
def o340:Ob:=tp [q "self" 621,q "number" 622,q "room" 623,q "held" 624,q "turn" 625]
def o342:Ob:=f0 "heard" "Sender.heard" (inClass (top 36) 4)
def o343:Ob:=cd "heard" 618 "Sender.heard" 619 620 161 5 0 0 3 324 true 181 325 .none (.ref 326) (.ref 327) (.ref 328) 626 627
def o344:Ob:=f1 "heard" "Sender.heard" (inClass (top 36) 4) 3 (q "slowroad.sender" 568) 329
def o347:Ob:=tp [q "self" 632,q "steps" 633]
def o349:Ob:=f0 "grow_base" "Sender.grow_base" (inClass (top 36) 5)
def o350:Ob:=cd "grow_base" 629 "Sender.grow_base" 630 631 164 2 0 0 3 331 true 181 332 .none (.ref 333) (.ref 334) (.ref 335) 634 635
def o351:Ob:=f1 "grow_base" "Sender.grow_base" (inClass (top 36) 5) 3 (q "slowroad.sender" 568) 336
def o354:Ob:=tp [q "self" 640,q "held" 641]
def o356:Ob:=f0 "note_held" "Sender.note_held" (inClass (top 36) 6)
def o357:Ob:=cd "note_held" 637 "Sender.note_held" 638 639 167 2 0 0 3 338 true 181 339 .none (.ref 340) (.ref 341) (.ref 342) 642 643
def o358:Ob:=f1 "note_held" "Sender.note_held" (inClass (top 36) 6) 3 (q "slowroad.sender" 568) 343
def o361:Ob:=tp [q "self" 648,q "places" 649]
def o363:Ob:=f0 "newly_known" "Sender.newly_known" (inClass (top 36) 7)
def o364:Ob:=cd "newly_known" 645 "Sender.newly_known" 646 647 170 2 0 0 3 345 true 181 346 .none (.ref 347) (.ref 348) (.ref 349) 650 651
def o365:Ob:=f1 "newly_known" "Sender.newly_known" (inClass (top 36) 7) 3 (q "slowroad.sender" 568) 350
def o368:Ob:=f0 "known_above_base" "Sender.known_above_base" (inClass (top 36) 8)
def o369:Ob:=cd "known_above_base" 653 "Sender.known_above_base" 654 655 173 1 0 0 3 352 true 181 353 .none .none .none (.ref 354) 656 657
def o370:Ob:=f1 "known_above_base" "Sender.known_above_base" (inClass (top 36) 8) 3 (q "slowroad.sender" 568) 355
def o373:Ob:=tp [q "self" 662]
def o375:Ob:=f0 "under_way" "Sender.under_way" (inClass (top 36) 9)
def o376:Ob:=cd "under_way" 659 "Sender.under_way" 660 661 176 1 0 0 3 357 true 181 358 .none (.ref 359) (.ref 360) (.ref 361) 663 664
def o377:Ob:=f1 "under_way" "Sender.under_way" (inClass (top 36) 9) 3 (q "slowroad.sender" 568) 362
def o380:Ob:=tp [q "self" 669]
def o382:Ob:=f0 "thing_waits" "Sender.thing_waits" (inClass (top 36) 10)
def o383:Ob:=cd "thing_waits" 666 "Sender.thing_waits" 667 668 179 1 0 0 3 364 true 181 365 .none (.ref 366) (.ref 367) (.ref 368) 670 671
def o384:Ob:=f1 "thing_waits" "Sender.thing_waits" (inClass (top 36) 10) 3 (q "slowroad.sender" 568) 369
def o387:Ob:=tp [q "self" 676,q "turn" 677]
def o389:Ob:=f0 "clock_is_out" "Sender.clock_is_out" (inClass (top 36) 11)
def o390:Ob:=cd "clock_is_out" 673 "Sender.clock_is_out" 674 675 182 2 0 0 3 371 true 181 372 .none (.ref 373) (.ref 374) (.ref 375) 678 679
def o391:Ob:=f1 "clock_is_out" "Sender.clock_is_out" (inClass (top 36) 11) 3 (q "slowroad.sender" 568) 376
def o394:Ob:=tp [q "self" 684]
def o396:Ob:=f0 "hurry_is_due" "Sender.hurry_is_due" (inClass (top 36) 12)
def o397:Ob:=cd "hurry_is_due" 681 "Sender.hurry_is_due" 682 683 185 1 0 0 3 378 true 181 379 .none (.ref 380) (.ref 381) (.ref 382) 685 686
def o398:Ob:=f1 "hurry_is_due" "Sender.hurry_is_due" (inClass (top 36) 12) 3 (q "slowroad.sender" 568) 383
def o401:Ob:=tp [q "self" 691]
def o403:Ob:=f0 "new_may_go" "Sender.new_may_go" (inClass (top 36) 13)
def o404:Ob:=cd "new_may_go" 688 "Sender.new_may_go" 689 690 188 1 0 0 3 385 true 181 386 .none (.ref 387) (.ref 388) (.ref 389) 692 693
def o405:Ob:=f1 "new_may_go" "Sender.new_may_go" (inClass (top 36) 13) 3 (q "slowroad.sender" 568) 390
def o408:Ob:=tp [q "self" 698,q "turn" 699]
def o410:Ob:=f0 "go" "Sender.go" (inClass (top 36) 14)
def o411:Ob:=cd "go" 695 "Sender.go" 696 697 191 2 0 0 3 392 true 181 393 .none (.ref 394) (.ref 395) (.ref 396) 700 701
def o412:Ob:=f1 "go" "Sender.go" (inClass (top 36) 14) 3 (q "slowroad.sender" 568) 397
def o415:Ob:=tp [q "self" 706,q "turn" 707]
def o417:Ob:=f0 "set_clock" "Sender.set_clock" (inClass (top 36) 15)
def o418:Ob:=cd "set_clock" 703 "Sender.set_clock" 704 705 205 2 0 0 3 399 true 181 400 .none (.ref 401) (.ref 402) (.ref 403) 708 709
def o419:Ob:=f1 "set_clock" "Sender.set_clock" (inClass (top 36) 15) 3 (q "slowroad.sender" 568) 404
def o422:Ob:=tp [q "self" 714,q "turn" 715]
def o424:Ob:=f0 "go_again" "Sender.go_again" (inClass (top 36) 16)
def o425:Ob:=cd "go_again" 711 "Sender.go_again" 712 713 208 2 0 0 3 406 true 181 407 .none (.ref 408) (.ref 409) (.ref 410) 716 717
def o426:Ob:=f1 "go_again" "Sender.go_again" (inClass (top 36) 16) 3 (q "slowroad.sender" 568) 411
def o429:Ob:=tp [q "self" 722,q "turn" 723,q "place" 724]
def o431:Ob:=f0 "go_new" "Sender.go_new" (inClass (top 36) 17)
def o432:Ob:=cd "go_new" 719 "Sender.go_new" 720 721 214 2 0 0 3 413 true 181 414 .none (.ref 415) (.ref 416) (.ref 417) 725 726
def o433:Ob:=f1 "go_new" "Sender.go_new" (inClass (top 36) 17) 3 (q "slowroad.sender" 568) 418
def o436:Ob:=tp [q "self" 731,q "turn" 732]
def o438:Ob:=f0 "ask_for_room" "Sender.ask_for_room" (inClass (top 36) 18)
def o439:Ob:=cd "ask_for_room" 728 "Sender.ask_for_room" 729 730 222 2 0 0 3 420 true 181 421 .none (.ref 422) (.ref 423) (.ref 424) 733 734
def o440:Ob:=f1 "ask_for_room" "Sender.ask_for_room" (inClass (top 36) 18) 3 (q "slowroad.sender" 568) 425
def o441:Ob:=tp [q "base" 736,q "base_hurried" 737,q "clock" 738,q "edge" 739,q "first_turns" 740,q "gone_again" 741,q "known_places" 742,q "meter" 743,q "ring" 744,q "things" 745,q "top" 746,q "ways" 747]
def o442(P:Pm):Ob:=⟨.type "dict",none,.dict #[den P "__module__" 579 (q "slowroad.sender" 568),den P "__firstlineno__" 583 (.int 136 582),den P "__init__" 594 (.ref 302),den P "put" 602 (.ref 309),den P "many" 609 (.ref 316),den P "thing" 617 (.ref 323),den P "heard" 628 (.ref 330),den P "grow_base" 636 (.ref 337),den P "note_held" 644 (.ref 344),den P "newly_known" 652 (.ref 351),den P "known_above_base" 658 (.ref 356),den P "under_way" 665 (.ref 363),den P "thing_waits" 672 (.ref 370),den P "clock_is_out" 680 (.ref 377),den P "hurry_is_due" 687 (.ref 384),den P "new_may_go" 694 (.ref 391),den P "go" 702 (.ref 398),den P "set_clock" 710 (.ref 405),den P "go_again" 718 (.ref 412),den P "go_new" 727 (.ref 419),den P "ask_for_room" 735 (.ref 426),den P "__static_attributes__" 748 (.ref 427),den P "__dict__" 750 (.ref 430),den P "__weakref__" 752 (.ref 431),den P "__doc__" 753 .none] 4,#[]⟩
def o443:Ob:=⟨.type "type",none,.cls (.mk (sO "Sender") [.type "object"] [.ref 429,.type "object"] 428 (sO "Sender") true [] [] false none false),#[none,none,some (q "Sender" 572),some (q "Sender" 580),some (.builtin "object.__new__"),some (.bool true)]⟩
def o444:Ob:=⟨.type "getset_descriptor",none,.fields #[q "__dict__" 749,.ref 429,.builtin "function.__dict__",.builtin "function.__dict__#set"],#[]⟩
def o445:Ob:=⟨.type "getset_descriptor",none,.fields #[q "__weakref__" 751,.ref 429,.builtin "ExceptionGroup.__weakref__",.none],#[]⟩
def o446:Ob:=⟨.type "super",none,.fields #[.ref 429,.ref 429,.ref 429],#[]⟩
def o447:Ob:=⟨.type "builtin_function_or_method",none,.fields #[.builtin "object.__init_subclass__",.ref 429],#[]⟩
def o448(P:Pm):Ob:=md P (q "slowroad.states" 756) 40 41
def o449:Ob:=lt 60
def o452(P:Pm):Ob:=⟨.type "dict",none,.dict #[den P "__module__" 765 (q "slowroad.states" 756),den P "__qualname__" 767 (q "State" 766),den P "__firstlineno__" 769 (.int 232 768),den P "name" 776 (.ref 447),den P "wish_begin" 783 (.ref 454),den P "wish_end" 790 (.ref 461),den P "may_put" 797 (.ref 468),den P "begun" 804 (.ref 475),den P "ended" 811 (.ref 482),den P "answered" 818 (.ref 489),den P "__static_attributes__" 819 (.ref 490)] 11,#[]⟩
def o454:Ob:=⟨.none,none,.fields #[.int 234 0,.int 4 0,.ref 446,.int 237 0,.int 4 0,.ref 453,.int 240 0,.int 4 0,.ref 460,.int 243 0,.int 4 0,.ref 467,.int 246 0,.int 4 0,.ref 474,.int 249 0,.int 4 0,.ref 481,.int 252 0,.int 4 0,.ref 488],#[]⟩
def o455:Ob:=cd "State" 760 "State" 761 762 232 0 0 0 0 437 false 181 438 .none .none .none .none 763 764
def o456:Ob:=⟨.type "frame",none,.plain,#[some (.ref 439),some (.ref 3),some (.ref 436),none,some (q "slowroad.states" 756),none,some (.ref 0)]⟩
def o459:Ob:=tp [q "self" 773]
def o461:Ob:=f0 "name" "State.name" (inClass (top 38) 0)
def o462:Ob:=cd "name" 770 "State.name" 771 772 234 1 0 0 3 441 true 181 442 .none (.ref 443) (.ref 444) (.ref 445) 774 775
def o463:Ob:=f1 "name" "State.name" (inClass (top 38) 0) 3 (q "slowroad.states" 756) 446
def o466:Ob:=tp [q "self" 780]
def o468:Ob:=f0 "wish_begin" "State.wish_begin" (inClass (top 38) 1)
def o469:Ob:=cd "wish_begin" 777 "State.wish_begin" 778 779 237 1 0 0 3 448 true 181 449 .none (.ref 450) (.ref 451) (.ref 452) 781 782
def o470:Ob:=f1 "wish_begin" "State.wish_begin" (inClass (top 38) 1) 3 (q "slowroad.states" 756) 453
def o473:Ob:=tp [q "self" 787]
def o475:Ob:=f0 "wish_end" "State.wish_end" (inClass (top 38) 2)
def o476:Ob:=cd "wish_end" 784 "State.wish_end" 785 786 240 1 0 0 3 455 true 181 456 .none (.ref 457) (.ref 458) (.ref 459) 788 789
def o477:Ob:=f1 "wish_end" "State.wish_end" (inClass (top 38) 2) 3 (q "slowroad.states" 756) 460
def o480:Ob:=tp [q "self" 794]
def o482:Ob:=f0 "may_put" "State.may_put" (inClass (top 38) 3)
def o483:Ob:=cd "may_put" 791 "State.may_put" 792 793 243 1 0 0 3 462 true 181 463 .none (.ref 464) (.ref 465) (.ref 466) 795 796
def o484:Ob:=f1 "may_put" "State.may_put" (inClass (top 38) 3) 3 (q "slowroad.states" 756) 467
def o487:Ob:=tp [q "self" 801]
def o489:Ob:=f0 "begun" "State.begun" (inClass (top 38) 4)
def o490:Ob:=cd "begun" 798 "State.begun" 799 800 246 1 0 0 3 469 true 181 470 .none (.ref 471) (.ref 472) (.ref 473) 802 803
def o491:Ob:=f1 "begun" "State.begun" (inClass (top 38) 4) 3 (q "slowroad.states" 756) 474
def o494:Ob:=tp [q "self" 808]
def o496:Ob:=f0 "ended" "State.ended" (inClass (top 38) 5)
def o497:Ob:=cd "ended" 805 "State.ended" 806 807 249 1 0 0 3 476 true 181 477 .none (.ref 478) (.ref 479) (.ref 480) 809 810
def o498:Ob:=f1 "ended" "State.ended" (inClass (top 38) 5) 3 (q "slowroad.states" 756) 481
def o501:Ob:=tp [q "self" 815]
def o503:Ob:=f0 "answered" "State.answered" (inClass (top 38) 6)
def o504:Ob:=cd "answered" 812 "State.answered" 813 814 252 1 0 0 3 483 true 181 484 .none (.ref 485) (.ref 486) (.ref 487) 816 817
def o505:Ob:=f1 "answered" "State.answered" (inClass (top 38) 6) 3 (q "slowroad.states" 756) 488
def o507(P:Pm):Ob:=⟨.type "dict",none,.dict #[den P "__module__" 765 (q "slowroad.states" 756),den P "__firstlineno__" 769 (.int 232 768),den P "name" 776 (.ref 447),den P "wish_begin" 783 (.ref 454),den P "wish_end" 790 (.ref 461),den P "may_put" 797 (.ref 468),den P "begun" 804 (.ref 475),den P "ended" 811 (.ref 482),den P "answered" 818 (.ref 489),den P "__static_attributes__" 819 (.ref 490),den P "__dict__" 821 (.ref 493),den P "__weakref__" 823 (.ref 494),den P "__doc__" 824 .none] 4,#[]⟩
def o508:Ob:=⟨.type "type",none,.cls (.mk (sO "State") [.type "object"] [.ref 492,.type "object"] 491 (sO "State") true [] [] false none false),#[none,none,some (q "State" 758),some (q "State" 766),some (.builtin "object.__new__"),some (.bool true)]⟩
def o509:Ob:=⟨.type "getset_descriptor",none,.fields #[q "__dict__" 820,.ref 492,.builtin "function.__dict__",.builtin "function.__dict__#set"],#[]⟩
def o510:Ob:=⟨.type "getset_descriptor",none,.fields #[q "__weakref__" 822,.ref 492,.builtin "ExceptionGroup.__weakref__",.none],#[]⟩
def o511:Ob:=⟨.type "super",none,.fields #[.ref 492,.ref 492,.ref 492],#[]⟩
def o512:Ob:=⟨.type "builtin_function_or_method",none,.fields #[.builtin "object.__init_subclass__",.ref 492],#[]⟩
def o513(P:Pm):Ob:=md P (q "slowroad.states" 756) 42 43
def o514:Ob:=lt 66
def o515:Ob:=⟨.type "type",none,.cls (.mk (sO "State") [.type "object"] [.ref 492,.type "object"] 491 (sO "State") true [] [.ref 527,.ref 567] false none false),#[none,none,some (q "State" 758),some (q "State" 766),some (.builtin "object.__new__"),some (.bool true)]⟩
def o516:Ob:=tp [.ref 492]
def o518(P:Pm):Ob:=⟨.type "dict",none,.dict #[den P "__module__" 834 (q "slowroad.states" 756),den P "__qualname__" 836 (q "Shut" 835),den P "__firstlineno__" 838 (.int 254 837),den P "name" 845 (.ref 510),den P "wish_begin" 852 (.ref 517),den P "begun" 859 (.ref 524),den P "__static_attributes__" 860 (.ref 525)] 7,#[]⟩
def o520:Ob:=⟨.none,none,.fields #[.int 256 0,.int 4 0,.ref 509,.int 259 0,.int 4 0,.ref 516,.int 262 0,.int 4 0,.ref 523],#[]⟩
def o521:Ob:=cd "Shut" 829 "Shut" 830 831 254 0 0 0 0 500 false 181 501 .none .none .none .none 832 833
def o522:Ob:=⟨.type "frame",none,.plain,#[some (.ref 502),some (.ref 3),some (.ref 499),none,some (q "slowroad.states" 756),none,some (.ref 0)]⟩
def o525:Ob:=tp [q "self" 842]
def o527:Ob:=f0 "name" "Shut.name" (inClass (top 39) 0)
def o528:Ob:=cd "name" 839 "Shut.name" 840 841 256 1 0 0 3 504 true 181 505 .none (.ref 506) (.ref 507) (.ref 508) 843 844
def o529:Ob:=f1 "name" "Shut.name" (inClass (top 39) 0) 3 (q "slowroad.states" 756) 509
def o532:Ob:=tp [q "self" 849]
def o534:Ob:=f0 "wish_begin" "Shut.wish_begin" (inClass (top 39) 1)
def o535:Ob:=cd "wish_begin" 846 "Shut.wish_begin" 847 848 259 1 0 0 3 511 true 181 512 .none (.ref 513) (.ref 514) (.ref 515) 850 851
def o536:Ob:=f1 "wish_begin" "Shut.wish_begin" (inClass (top 39) 1) 3 (q "slowroad.states" 756) 516
def o539:Ob:=tp [q "self" 856]
def o541:Ob:=f0 "begun" "Shut.begun" (inClass (top 39) 2)
def o542:Ob:=cd "begun" 853 "Shut.begun" 854 855 262 1 0 0 3 518 true 181 519 .none (.ref 520) (.ref 521) (.ref 522) 857 858
def o543:Ob:=f1 "begun" "Shut.begun" (inClass (top 39) 2) 3 (q "slowroad.states" 756) 523
def o545(P:Pm):Ob:=⟨.type "dict",none,.dict #[den P "__module__" 834 (q "slowroad.states" 756),den P "__firstlineno__" 838 (.int 254 837),den P "name" 845 (.ref 510),den P "wish_begin" 852 (.ref 517),den P "begun" 859 (.ref 524),den P "__static_attributes__" 860 (.ref 525),den P "__doc__" 861 .none] 2,#[]⟩
def o546:Ob:=⟨.type "type",none,.cls (.mk (sO "Shut") [.ref 492] [.ref 527,.ref 492,.type "object"] 526 (sO "Shut") true [] [] false none false),#[some (.ref 497),none,some (q "Shut" 827),some (q "Shut" 835),some (.builtin "object.__new__"),some (.bool true)]⟩
def o547:Ob:=⟨.type "super",none,.fields #[.ref 527,.ref 527,.ref 527],#[]⟩
def o548:Ob:=⟨.type "builtin_function_or_method",none,.fields #[.builtin "object.__init_subclass__",.ref 527],#[]⟩
def o551(P:Pm):Ob:=⟨.type "dict",none,.dict #[den P "__module__" 871 (q "slowroad.states" 756),den P "__qualname__" 873 (q "Calling" 872),den P "__firstlineno__" 875 (.int 264 874),den P "name" 882 (.ref 543),den P "wish_end" 889 (.ref 550),den P "may_put" 896 (.ref 557),den P "begun" 903 (.ref 564),den P "__static_attributes__" 904 (.ref 565)] 8,#[]⟩
def o553:Ob:=⟨.none,none,.fields #[.int 266 0,.int 4 0,.ref 542,.int 269 0,.int 4 0,.ref 549,.int 272 0,.int 4 0,.ref 556,.int 275 0,.int 4 0,.ref 563],#[]⟩
def o554:Ob:=cd "Calling" 866 "Calling" 867 868 264 0 0 0 0 533 false 181 534 .none .none .none .none 869 870
def o555:Ob:=⟨.type "frame",none,.plain,#[some (.ref 535),some (.ref 3),some (.ref 532),none,some (q "slowroad.states" 756),none,some (.ref 0)]⟩
def o558:Ob:=tp [q "self" 879]
def o560:Ob:=f0 "name" "Calling.name" (inClass (top 40) 0)
def o561:Ob:=cd "name" 876 "Calling.name" 877 878 266 1 0 0 3 537 true 181 538 .none (.ref 539) (.ref 540) (.ref 541) 880 881
def o562:Ob:=f1 "name" "Calling.name" (inClass (top 40) 0) 3 (q "slowroad.states" 756) 542
def o565:Ob:=tp [q "self" 886]
def o567:Ob:=f0 "wish_end" "Calling.wish_end" (inClass (top 40) 1)
def o568:Ob:=cd "wish_end" 883 "Calling.wish_end" 884 885 269 1 0 0 3 544 true 181 545 .none (.ref 546) (.ref 547) (.ref 548) 887 888
def o569:Ob:=f1 "wish_end" "Calling.wish_end" (inClass (top 40) 1) 3 (q "slowroad.states" 756) 549
def o572:Ob:=tp [q "self" 893]
def o574:Ob:=f0 "may_put" "Calling.may_put" (inClass (top 40) 2)
def o575:Ob:=cd "may_put" 890 "Calling.may_put" 891 892 272 1 0 0 3 551 true 181 552 .none (.ref 553) (.ref 554) (.ref 555) 894 895
def o576:Ob:=f1 "may_put" "Calling.may_put" (inClass (top 40) 2) 3 (q "slowroad.states" 756) 556
def o579:Ob:=tp [q "self" 900]
def o581:Ob:=f0 "begun" "Calling.begun" (inClass (top 40) 3)
def o582:Ob:=cd "begun" 897 "Calling.begun" 898 899 275 1 0 0 3 558 true 181 559 .none (.ref 560) (.ref 561) (.ref 562) 901 902
def o583:Ob:=f1 "begun" "Calling.begun" (inClass (top 40) 3) 3 (q "slowroad.states" 756) 563
def o585(P:Pm):Ob:=⟨.type "dict",none,.dict #[den P "__module__" 871 (q "slowroad.states" 756),den P "__firstlineno__" 875 (.int 264 874),den P "name" 882 (.ref 543),den P "wish_end" 889 (.ref 550),den P "may_put" 896 (.ref 557),den P "begun" 903 (.ref 564),den P "__static_attributes__" 904 (.ref 565),den P "__doc__" 905 .none] 2,#[]⟩
def o586:Ob:=⟨.type "type",none,.cls (.mk (sO "Calling") [.ref 492] [.ref 567,.ref 492,.type "object"] 566 (sO "Calling") true [] [] false none false),#[some (.ref 530),none,some (q "Calling" 864),some (q "Calling" 872),some (.builtin "object.__new__"),some (.bool true)]⟩
def o587:Ob:=⟨.type "super",none,.fields #[.ref 567,.ref 567,.ref 567],#[]⟩
def o588:Ob:=⟨.type "builtin_function_or_method",none,.fields #[.builtin "object.__init_subclass__",.ref 567],#[]⟩
def o589(P:Pm):Ob:=md P (q "slowroad.taker" 945) 44 45
def o590:Ob:=lt 72
def o591:Ob:=⟨.type "type",none,.cls (.mk (sO "State") [.type "object"] [.ref 492,.type "object"] 491 (sO "State") true [] [.ref 527,.ref 567,.ref 600] false none false),#[none,none,some (q "State" 758),some (q "State" 766),some (.builtin "object.__new__"),some (.bool true)]⟩
def o594(P:Pm):Ob:=⟨.type "dict",none,.dict #[den P "__module__" 915 (q "slowroad.states" 756),den P "__qualname__" 917 (q "Leaving" 916),den P "__firstlineno__" 919 (.int 277 918),den P "name" 926 (.ref 583),den P "ended" 933 (.ref 590),den P "answered" 940 (.ref 597),den P "__static_attributes__" 941 (.ref 598)] 7,#[]⟩
def o596:Ob:=⟨.none,none,.fields #[.int 279 0,.int 4 0,.ref 582,.int 282 0,.int 4 0,.ref 589,.int 285 0,.int 4 0,.ref 596],#[]⟩
def o597:Ob:=cd "Leaving" 910 "Leaving" 911 912 277 0 0 0 0 573 false 181 574 .none .none .none .none 913 914
def o598:Ob:=⟨.type "frame",none,.plain,#[some (.ref 575),some (.ref 3),some (.ref 572),none,some (q "slowroad.states" 756),none,some (.ref 0)]⟩
def o601:Ob:=tp [q "self" 923]
def o603:Ob:=f0 "name" "Leaving.name" (inClass (top 41) 0)
def o604:Ob:=cd "name" 920 "Leaving.name" 921 922 279 1 0 0 3 577 true 181 578 .none (.ref 579) (.ref 580) (.ref 581) 924 925
def o605:Ob:=f1 "name" "Leaving.name" (inClass (top 41) 0) 3 (q "slowroad.states" 756) 582
def o608:Ob:=tp [q "self" 930]
def o610:Ob:=f0 "ended" "Leaving.ended" (inClass (top 41) 1)
def o611:Ob:=cd "ended" 927 "Leaving.ended" 928 929 282 1 0 0 3 584 true 181 585 .none (.ref 586) (.ref 587) (.ref 588) 931 932
def o612:Ob:=f1 "ended" "Leaving.ended" (inClass (top 41) 1) 3 (q "slowroad.states" 756) 589
def o615:Ob:=tp [q "self" 937]
def o617:Ob:=f0 "answered" "Leaving.answered" (inClass (top 41) 2)
def o618:Ob:=cd "answered" 934 "Leaving.answered" 935 936 285 1 0 0 3 591 true 181 592 .none (.ref 593) (.ref 594) (.ref 595) 938 939
def o619:Ob:=f1 "answered" "Leaving.answered" (inClass (top 41) 2) 3 (q "slowroad.states" 756) 596
def o621(P:Pm):Ob:=⟨.type "dict",none,.dict #[den P "__module__" 915 (q "slowroad.states" 756),den P "__firstlineno__" 919 (.int 277 918),den P "name" 926 (.ref 583),den P "ended" 933 (.ref 590),den P "answered" 940 (.ref 597),den P "__static_attributes__" 941 (.ref 598),den P "__doc__" 942 .none] 2,#[]⟩
def o622:Ob:=⟨.type "type",none,.cls (.mk (sO "Leaving") [.ref 492] [.ref 600,.ref 492,.type "object"] 599 (sO "Leaving") true [] [] false none false),#[some (.ref 570),none,some (q "Leaving" 908),some (q "Leaving" 916),some (.builtin "object.__new__"),some (.bool true)]⟩
def o623:Ob:=⟨.type "super",none,.fields #[.ref 600,.ref 600,.ref 600],#[]⟩
def o624:Ob:=⟨.type "builtin_function_or_method",none,.fields #[.builtin "object.__init_subclass__",.ref 600],#[]⟩
def o627(P:Pm):Ob:=⟨.type "dict",none,.dict #[den P "__module__" 954 (q "slowroad.taker" 945),den P "__qualname__" 956 (q "Taker" 955),den P "__firstlineno__" 958 (.int 288 957),den P "__init__" 967 (.ref 616),den P "room_left" 974 (.ref 623),den P "take" 983 (.ref 630),den P "stand_in_order" 990 (.ref 637),den P "answer" 996 (.ref 642),den P "read" 1006 (.ref 649),den P "__static_attributes__" 1012 (.ref 650)] 10,#[]⟩
def o629:Ob:=⟨.none,none,.fields #[.int 290 0,.int 4 0,.ref 615,.int 297 0,.int 4 0,.ref 622,.int 300 0,.int 4 0,.ref 629,.int 303 0,.int 4 0,.ref 636,.int 306 0,.int 4 0,.ref 641,.int 310 0,.int 4 0,.ref 648],#[]⟩
def o630:Ob:=cd "Taker" 949 "Taker" 950 951 288 0 0 0 0 606 false 181 607 .none .none .none .none 952 953
def o631:Ob:=⟨.type "frame",none,.plain,#[some (.ref 608),some (.ref 3),some (.ref 605),none,some (q "slowroad.taker" 945),none,some (.ref 0)]⟩
def o634:Ob:=tp [q "self" 962,q "ring" 963,q "room" 964]
def o636:Ob:=f0 "__init__" "Taker.__init__" (inClass (top 43) 0)
def o637:Ob:=cd "__init__" 959 "Taker.__init__" 960 961 290 3 0 0 3 610 true 181 611 .none (.ref 612) (.ref 613) (.ref 614) 965 966
def o638:Ob:=f1 "__init__" "Taker.__init__" (inClass (top 43) 0) 3 (q "slowroad.taker" 945) 615
def o641:Ob:=tp [q "self" 971]
def o643:Ob:=f0 "room_left" "Taker.room_left" (inClass (top 43) 1)
def o644:Ob:=cd "room_left" 968 "Taker.room_left" 969 970 297 1 0 0 3 617 true 181 618 .none (.ref 619) (.ref 620) (.ref 621) 972 973
def o645:Ob:=f1 "room_left" "Taker.room_left" (inClass (top 43) 1) 3 (q "slowroad.taker" 945) 622
def o648:Ob:=tp [q "self" 978,q "number" 979,q "thing" 980]
def o650:Ob:=f0 "take" "Taker.take" (inClass (top 43) 2)
def o651:Ob:=cd "take" 975 "Taker.take" 976 977 300 3 0 0 3 624 true 181 625 .none (.ref 626) (.ref 627) (.ref 628) 981 982
def o652:Ob:=f1 "take" "Taker.take" (inClass (top 43) 2) 3 (q "slowroad.taker" 945) 629
def o655:Ob:=tp [q "self" 987]
def o657:Ob:=f0 "stand_in_order" "Taker.stand_in_order" (inClass (top 43) 3)
def o658:Ob:=cd "stand_in_order" 984 "Taker.stand_in_order" 985 986 303 1 0 0 3 631 true 181 632 .none (.ref 633) (.ref 634) (.ref 635) 988 989
def o659:Ob:=f1 "stand_in_order" "Taker.stand_in_order" (inClass (top 43) 3) 3 (q "slowroad.taker" 945) 636
def o662:Ob:=f0 "answer" "Taker.answer" (inClass (top 43) 4)
def o663:Ob:=cd "answer" 991 "Taker.answer" 992 993 306 1 0 0 3 638 true 181 639 .none .none .none (.ref 640) 994 995
def o664:Ob:=f1 "answer" "Taker.answer" (inClass (top 43) 4) 3 (q "slowroad.taker" 945) 641
def o667:Ob:=tp [q "self" 1000,q "most" 1001,q "things" 1002,q "place" 1003]
def o669:Ob:=f0 "read" "Taker.read" (inClass (top 43) 5)
def o670:Ob:=cd "read" 997 "Taker.read" 998 999 310 2 0 0 3 643 true 181 644 .none (.ref 645) (.ref 646) (.ref 647) 1004 1005
def o671:Ob:=f1 "read" "Taker.read" (inClass (top 43) 5) 3 (q "slowroad.taker" 945) 648
def o672:Ob:=tp [q "got" 1007,q "kept" 1008,q "out" 1009,q "ring" 1010,q "room" 1011]
def o673(P:Pm):Ob:=⟨.type "dict",none,.dict #[den P "__module__" 954 (q "slowroad.taker" 945),den P "__firstlineno__" 958 (.int 288 957),den P "__init__" 967 (.ref 616),den P "room_left" 974 (.ref 623),den P "take" 983 (.ref 630),den P "stand_in_order" 990 (.ref 637),den P "answer" 996 (.ref 642),den P "read" 1006 (.ref 649),den P "__static_attributes__" 1012 (.ref 650),den P "__dict__" 1014 (.ref 653),den P "__weakref__" 1016 (.ref 654),den P "__doc__" 1017 .none] 4,#[]⟩
def o674:Ob:=⟨.type "type",none,.cls (.mk (sO "Taker") [.type "object"] [.ref 652,.type "object"] 651 (sO "Taker") true [] [] false none false),#[none,none,some (q "Taker" 947),some (q "Taker" 955),some (.builtin "object.__new__"),some (.bool true)]⟩
def o675:Ob:=⟨.type "getset_descriptor",none,.fields #[q "__dict__" 1013,.ref 652,.builtin "function.__dict__",.builtin "function.__dict__#set"],#[]⟩
def o676:Ob:=⟨.type "getset_descriptor",none,.fields #[q "__weakref__" 1015,.ref 652,.builtin "ExceptionGroup.__weakref__",.none],#[]⟩
def o677:Ob:=⟨.type "super",none,.fields #[.ref 652,.ref 652,.ref 652],#[]⟩
def o678:Ob:=⟨.type "builtin_function_or_method",none,.fields #[.builtin "object.__init_subclass__",.ref 652],#[]⟩
def o679(P:Pm):Ob:=md P (q "slowroad.fooling" 1176) 49 50
def o680:Ob:=lt 78
def o681:Ob:=tp [q "begin" 1024,q "" 1025]
def o682:Ob:=tp [q "end" 1027,q "" 1028]
def o685:Ob:=f0 "is_text" "is_text" (top 48)
def o686:Ob:=cd "is_text" 1030 "is_text" 1031 1032 320 1 0 0 3 659 true 181 660 .none .none .none (.ref 661) 1033 1034
def o687:Ob:=f1 "is_text" "is_text" (top 48) 3 (q "slowroad.hand" 1020) 662
def o690(P:Pm):Ob:=⟨.type "dict",none,.dict #[den P "__module__" 1043 (q "slowroad.hand" 1020),den P "__qualname__" 1045 (q "Hand" 1044),den P "__firstlineno__" 1047 (.int 322 1046),den P "__init__" 1056 (.ref 677),den P "name" 1063 (.ref 684),den P "begin" 1070 (.ref 691),den P "end" 1077 (.ref 698),den P "put" 1086 (.ref 705),den P "read" 1096 (.ref 712),den P "come" 1105 (.ref 719),den P "hear" 1114 (.ref 726),den P "take_in" 1123 (.ref 733),den P "stand_to" 1131 (.ref 740),den P "send" 1142 (.ref 747),den P "piece_of" 1153 (.ref 754),den P "quiet" 1160 (.ref 761),den P "__static_attributes__" 1168 (.ref 762)] 17,#[]⟩
def o692:Ob:=⟨.none,none,.fields #[.int 324 0,.int 4 0,.ref 676,.int 333 0,.int 4 0,.ref 683,.int 336 0,.int 4 0,.ref 690,.int 340 0,.int 4 0,.ref 697,.int 345 0,.int 4 0,.ref 704,.int 353 0,.int 4 0,.ref 711,.int 360 0,.int 4 0,.ref 718,.int 363 0,.int 4 0,.ref 725,.int 366 0,.int 4 0,.ref 732,.int 369 0,.int 4 0,.ref 739,.int 372 0,.int 4 0,.ref 746,.int 381 0,.int 4 0,.ref 753,.int 388 0,.int 4 0,.ref 760],#[]⟩
def o693:Ob:=cd "Hand" 1038 "Hand" 1039 1040 322 0 0 0 0 667 false 181 668 .none .none .none .none 1041 1042
def o694:Ob:=⟨.type "frame",none,.plain,#[some (.ref 669),some (.ref 3),some (.ref 666),none,some (q "slowroad.hand" 1020),none,some (.ref 0)]⟩
def o697:Ob:=tp [q "self" 1051,q "side" 1052,q "terms" 1053]
def o699:Ob:=f0 "__init__" "Hand.__init__" (inClass (top 49) 0)
def o700:Ob:=cd "__init__" 1048 "Hand.__init__" 1049 1050 324 3 0 0 3 671 true 181 672 .none (.ref 673) (.ref 674) (.ref 675) 1054 1055
def o701:Ob:=f1 "__init__" "Hand.__init__" (inClass (top 49) 0) 3 (q "slowroad.hand" 1020) 676
def o704:Ob:=tp [q "self" 1060]
def o706:Ob:=f0 "name" "Hand.name" (inClass (top 49) 1)
def o707:Ob:=cd "name" 1057 "Hand.name" 1058 1059 333 1 0 0 3 678 true 181 679 .none (.ref 680) (.ref 681) (.ref 682) 1061 1062
def o708:Ob:=f1 "name" "Hand.name" (inClass (top 49) 1) 3 (q "slowroad.hand" 1020) 683
def o711:Ob:=tp [q "self" 1067]
def o713:Ob:=f0 "begin" "Hand.begin" (inClass (top 49) 2)
def o714:Ob:=cd "begin" 1064 "Hand.begin" 1065 1066 336 1 0 0 3 685 true 181 686 .none (.ref 687) (.ref 688) (.ref 689) 1068 1069
def o715:Ob:=f1 "begin" "Hand.begin" (inClass (top 49) 2) 3 (q "slowroad.hand" 1020) 690
def o718:Ob:=tp [q "self" 1074]
def o720:Ob:=f0 "end" "Hand.end" (inClass (top 49) 3)
def o721:Ob:=cd "end" 1071 "Hand.end" 1072 1073 340 1 0 0 3 692 true 181 693 .none (.ref 694) (.ref 695) (.ref 696) 1075 1076
def o722:Ob:=f1 "end" "Hand.end" (inClass (top 49) 3) 3 (q "slowroad.hand" 1020) 697
def o725:Ob:=tp [q "self" 1081,q "text" 1082,q "at" 1083]
def o727:Ob:=f0 "put" "Hand.put" (inClass (top 49) 4)
def o728:Ob:=cd "put" 1078 "Hand.put" 1079 1080 345 2 0 0 3 699 true 181 700 .none (.ref 701) (.ref 702) (.ref 703) 1084 1085
def o729:Ob:=f1 "put" "Hand.put" (inClass (top 49) 4) 3 (q "slowroad.hand" 1020) 704
def o732:Ob:=tp [q "self" 1090,q "many" 1091,q "had_room" 1092,q "things" 1093]
def o734:Ob:=f0 "read" "Hand.read" (inClass (top 49) 5)
def o735:Ob:=cd "read" 1087 "Hand.read" 1088 1089 353 2 0 0 3 706 true 181 707 .none (.ref 708) (.ref 709) (.ref 710) 1094 1095
def o736:Ob:=f1 "read" "Hand.read" (inClass (top 49) 5) 3 (q "slowroad.hand" 1020) 711
def o739:Ob:=tp [q "self" 1100,q "frame" 1101,q "turn" 1102]
def o741:Ob:=f0 "come" "Hand.come" (inClass (top 49) 6)
def o742:Ob:=cd "come" 1097 "Hand.come" 1098 1099 360 3 0 0 3 713 true 181 714 .none (.ref 715) (.ref 716) (.ref 717) 1103 1104
def o743:Ob:=f1 "come" "Hand.come" (inClass (top 49) 6) 3 (q "slowroad.hand" 1020) 718
def o746:Ob:=tp [q "self" 1109,q "piece" 1110,q "turn" 1111]
def o748:Ob:=f0 "hear" "Hand.hear" (inClass (top 49) 7)
def o749:Ob:=cd "hear" 1106 "Hand.hear" 1107 1108 363 3 0 0 3 720 true 181 721 .none (.ref 722) (.ref 723) (.ref 724) 1112 1113
def o750:Ob:=f1 "hear" "Hand.hear" (inClass (top 49) 7) 3 (q "slowroad.hand" 1020) 725
def o753:Ob:=tp [q "self" 1118,q "number" 1119,q "thing" 1120]
def o755:Ob:=f0 "take_in" "Hand.take_in" (inClass (top 49) 8)
def o756:Ob:=cd "take_in" 1115 "Hand.take_in" 1116 1117 366 3 0 0 3 727 true 181 728 .none (.ref 729) (.ref 730) (.ref 731) 1121 1122
def o757:Ob:=f1 "take_in" "Hand.take_in" (inClass (top 49) 8) 3 (q "slowroad.hand" 1020) 732
def o760:Ob:=tp [q "self" 1127,q "kind" 1128]
def o762:Ob:=f0 "stand_to" "Hand.stand_to" (inClass (top 49) 9)
def o763:Ob:=cd "stand_to" 1124 "Hand.stand_to" 1125 1126 369 2 0 0 3 734 true 181 735 .none (.ref 736) (.ref 737) (.ref 738) 1129 1130
def o764:Ob:=f1 "stand_to" "Hand.stand_to" (inClass (top 49) 9) 3 (q "slowroad.hand" 1020) 739
def o767:Ob:=tp [q "self" 1135,q "turn" 1136,q "what" 1137,q "word" 1138,q "place" 1139]
def o769:Ob:=f0 "send" "Hand.send" (inClass (top 49) 10)
def o770:Ob:=cd "send" 1132 "Hand.send" 1133 1134 372 2 0 0 3 741 true 181 742 .none (.ref 743) (.ref 744) (.ref 745) 1140 1141
def o771:Ob:=f1 "send" "Hand.send" (inClass (top 49) 10) 3 (q "slowroad.hand" 1020) 746
def o774:Ob:=tp [q "self" 1146,q "word" 1147,q "place" 1148,q "answer" 1149,q "thing" 1150]
def o776:Ob:=f0 "piece_of" "Hand.piece_of" (inClass (top 49) 11)
def o777:Ob:=cd "piece_of" 1143 "Hand.piece_of" 1144 1145 381 3 0 0 3 748 true 181 749 .none (.ref 750) (.ref 751) (.ref 752) 1151 1152
def o778:Ob:=f1 "piece_of" "Hand.piece_of" (inClass (top 49) 11) 3 (q "slowroad.hand" 1020) 753
def o781:Ob:=tp [q "self" 1157]
def o783:Ob:=f0 "quiet" "Hand.quiet" (inClass (top 49) 12)
def o784:Ob:=cd "quiet" 1154 "Hand.quiet" 1155 1156 388 1 0 0 3 755 true 181 756 .none (.ref 757) (.ref 758) (.ref 759) 1158 1159
def o785:Ob:=f1 "quiet" "Hand.quiet" (inClass (top 49) 12) 3 (q "slowroad.hand" 1020) 760
def o786:Ob:=tp [q "answer_due" 1161,q "end_places" 1162,q "ring" 1163,q "sender" 1164,q "side" 1165,q "state" 1166,q "taker" 1167]
def o787(P:Pm):Ob:=⟨.type "dict",none,.dict #[den P "__module__" 1043 (q "slowroad.hand" 1020),den P "__firstlineno__" 1047 (.int 322 1046),den P "__init__" 1056 (.ref 677),den P "name" 1063 (.ref 684),den P "begin" 1070 (.ref 691),den P "end" 1077 (.ref 698),den P "put" 1086 (.ref 705),den P "read" 1096 (.ref 712),den P "come" 1105 (.ref 719),den P "hear" 1114 (.ref 726),den P "take_in" 1123 (.ref 733),den P "stand_to" 1131 (.ref 740),den P "send" 1142 (.ref 747),den P "piece_of" 1153 (.ref 754),den P "quiet" 1160 (.ref 761),den P "__static_attributes__" 1168 (.ref 762),den P "__dict__" 1170 (.ref 765),den P "__weakref__" 1172 (.ref 766),den P "__doc__" 1173 .none] 4,#[]⟩
def o788:Ob:=⟨.type "type",none,.cls (.mk (sO "Hand") [.type "object"] [.ref 764,.type "object"] 763 (sO "Hand") true [] [] false none false),#[none,none,some (q "Hand" 1036),some (q "Hand" 1044),some (.builtin "object.__new__"),some (.bool true)]⟩
def o789:Ob:=⟨.type "getset_descriptor",none,.fields #[q "__dict__" 1169,.ref 764,.builtin "function.__dict__",.builtin "function.__dict__#set"],#[]⟩
def o790:Ob:=⟨.type "getset_descriptor",none,.fields #[q "__weakref__" 1171,.ref 764,.builtin "ExceptionGroup.__weakref__",.none],#[]⟩
def o791:Ob:=⟨.type "super",none,.fields #[.ref 764,.ref 764,.ref 764],#[]⟩
def o792:Ob:=⟨.type "builtin_function_or_method",none,.fields #[.builtin "object.__init_subclass__",.ref 764],#[]⟩
def o793(P:Pm):Ob:=md P (q "law_slowroad_k63_wishes_of_a_hand" 1243) 68 69
def o794:Ob:=lt 120
def o797:Ob:=tp [q "room" 1181,q "lag" 1182]
def o799:Ob:=f0 "need" "need" (top 51)
def o800:Ob:=cd "need" 1178 "need" 1179 1180 391 2 0 0 3 769 true 181 770 .none (.ref 771) (.ref 772) (.ref 773) 1183 1184
def o801:Ob:=f1 "need" "need" (top 51) 3 (q "slowroad.fooling" 1176) 774
def o804:Ob:=f0 "are_rooms" "are_rooms" (top 58)
def o805:Ob:=cd "are_rooms" 1198 "are_rooms" 1199 1200 399 1 0 0 3 776 true 181 777 .none .none .none (.ref 778) 1201 1202
def o806:Ob:=f1 "are_rooms" "are_rooms" (top 58) 3 (q "slowroad.terms" 1186) 779
def o809:Ob:=tp [q "first" 1207,q "longest" 1208]
def o811:Ob:=f0 "are_waits" "are_waits" (top 59)
def o812:Ob:=cd "are_waits" 1204 "are_waits" 1205 1206 401 2 0 0 3 781 true 181 782 .none (.ref 783) (.ref 784) (.ref 785) 1209 1210
def o813:Ob:=f1 "are_waits" "are_waits" (top 59) 3 (q "slowroad.terms" 1186) 786
def o816(P:Pm):Ob:=⟨.type "dict",none,.dict #[den P "__module__" 1219 (q "slowroad.terms" 1186),den P "__qualname__" 1221 (q "Terms" 1220),den P "__firstlineno__" 1223 (.int 403 1222),den P "__init__" 1229 (.ref 799),den P "__static_attributes__" 1235 (.ref 800)] 5,#[]⟩
def o818:Ob:=⟨.none,none,.fields #[.int 405 0,.int 4 0,.ref 798],#[]⟩
def o819:Ob:=cd "Terms" 1214 "Terms" 1215 1216 403 0 0 0 0 791 false 181 792 .none .none .none .none 1217 1218
def o820:Ob:=⟨.type "frame",none,.plain,#[some (.ref 793),some (.ref 3),some (.ref 790),none,some (q "slowroad.terms" 1186),none,some (.ref 0)]⟩
def o823:Ob:=f0 "__init__" "Terms.__init__" (inClass (top 60) 0)
def o824:Ob:=cd "__init__" 1224 "Terms.__init__" 1225 1226 405 6 0 0 3 795 true 181 796 .none .none .none (.ref 797) 1227 1228
def o825:Ob:=f1 "__init__" "Terms.__init__" (inClass (top 60) 0) 3 (q "slowroad.terms" 1186) 798
def o826:Ob:=tp [q "first" 1230,q "lag" 1231,q "longest" 1232,q "ring" 1233,q "rooms" 1234]
def o827(P:Pm):Ob:=⟨.type "dict",none,.dict #[den P "__module__" 1219 (q "slowroad.terms" 1186),den P "__firstlineno__" 1223 (.int 403 1222),den P "__init__" 1229 (.ref 799),den P "__static_attributes__" 1235 (.ref 800),den P "__dict__" 1237 (.ref 803),den P "__weakref__" 1239 (.ref 804),den P "__doc__" 1240 .none] 4,#[]⟩
def o828:Ob:=⟨.type "type",none,.cls (.mk (sO "Terms") [.type "object"] [.ref 802,.type "object"] 801 (sO "Terms") true [] [] false none false),#[none,none,some (q "Terms" 1212),some (q "Terms" 1220),some (.builtin "object.__new__"),some (.bool true)]⟩
def o829:Ob:=⟨.type "getset_descriptor",none,.fields #[q "__dict__" 1236,.ref 802,.builtin "function.__dict__",.builtin "function.__dict__#set"],#[]⟩
def o830:Ob:=⟨.type "getset_descriptor",none,.fields #[q "__weakref__" 1238,.ref 802,.builtin "ExceptionGroup.__weakref__",.none],#[]⟩
def o831:Ob:=⟨.type "super",none,.fields #[.ref 802,.ref 802,.ref 802],#[]⟩
def o832:Ob:=⟨.type "builtin_function_or_method",none,.fields #[.builtin "object.__init_subclass__",.ref 802],#[]⟩
def o835:Ob:=tp [q "_law_script" 1248,q "_law_k" 1249]
def o837:Ob:=f0 "_law_cell_at" "_law_cell_at" (top 62)
def o838:Ob:=cd "_law_cell_at" 1245 "_law_cell_at" 1246 1247 419 2 0 0 3 807 true 181 808 .none (.ref 809) (.ref 810) (.ref 811) 1250 1251
def o839:Ob:=f1 "_law_cell_at" "_law_cell_at" (top 62) 3 (q "law_slowroad_k63_wishes_of_a_hand" 1243) 812
def o842:Ob:=tp [q "_law_cell" 1256,q "_law_k" 1257,q "_law_number" 1258,q "_law_turn" 1259]
def o844:Ob:=f0 "_law_mixed" "_law_mixed" (top 63)
def o845:Ob:=cd "_law_mixed" 1253 "_law_mixed" 1254 1255 423 2 0 0 3 814 true 181 815 .none (.ref 816) (.ref 817) (.ref 818) 1260 1261
def o846:Ob:=f1 "_law_mixed" "_law_mixed" (top 63) 3 (q "law_slowroad_k63_wishes_of_a_hand" 1243) 819
def o849:Ob:=f0 "_law_terms" "_law_terms" (top 64)
def o850:Ob:=cd "_law_terms" 1263 "_law_terms" 1264 1265 430 2 0 0 3 821 true 181 822 .none .none .none (.ref 823) 1266 1267
def o851:Ob:=f1 "_law_terms" "_law_terms" (top 64) 3 (q "law_slowroad_k63_wishes_of_a_hand" 1243) 824
def o854:Ob:=tp [q "_law_cell" 1272,q "_law_size" 1273,q "_law_some" 1274,q "_law_signs" 1275,q "_law_k" 1276]
def o856:Ob:=f0 "_law_text" "_law_text" (top 65)
def o857:Ob:=cd "_law_text" 1269 "_law_text" 1270 1271 442 2 0 0 3 826 true 181 827 .none (.ref 828) (.ref 829) (.ref 830) 1277 1278
def o858:Ob:=f1 "_law_text" "_law_text" (top 65) 3 (q "law_slowroad_k63_wishes_of_a_hand" 1243) 831
def o861:Ob:=tp [q "_law_cell" 1283,q "_law_signs" 1284,q "_law_at" 1285]
def o863:Ob:=f0 "_law_bad_text" "_law_bad_text" (top 66)
def o864:Ob:=cd "_law_bad_text" 1280 "_law_bad_text" 1281 1282 449 1 0 0 3 833 true 181 834 .none (.ref 835) (.ref 836) (.ref 837) 1286 1287
def o865:Ob:=f1 "_law_bad_text" "_law_bad_text" (top 66) 3 (q "law_slowroad_k63_wishes_of_a_hand" 1243) 838
def o868:Ob:=tp [q "_law_hand" 1292,q "_law_signs" 1293,q "_law_fine" 1294,q "e" 1295]
def o870:Ob:=f0 "_law_bad" "_law_bad" (top 67)
def o871:Ob:=cd "_law_bad" 1289 "_law_bad" 1290 1291 457 2 0 0 3 840 true 181 841 .none (.ref 842) (.ref 843) (.ref 844) 1296 1297
def o872:Ob:=f1 "_law_bad" "_law_bad" (top 67) 3 (q "law_slowroad_k63_wishes_of_a_hand" 1243) 845
def o875:Ob:=tp [q "_law_hand" 1302,q "_law_word" 1303,q "_law_signs" 1304,q "_law_told" 1305,q "_law_given" 1306,q "e" 1307]
def o877:Ob:=f0 "_law_wished" "_law_wished" (top 68)
def o878:Ob:=cd "_law_wished" 1299 "_law_wished" 1300 1301 466 3 0 0 3 847 true 181 848 .none (.ref 849) (.ref 850) (.ref 851) 1308 1309
def o879:Ob:=f1 "_law_wished" "_law_wished" (top 68) 3 (q "law_slowroad_k63_wishes_of_a_hand" 1243) 852
def o882:Ob:=tp [q "_law_name" 1314,q "_law_word" 1315]
def o884:Ob:=f0 "_law_after" "_law_after" (top 69)
def o885:Ob:=cd "_law_after" 1311 "_law_after" 1312 1313 481 2 0 0 3 854 true 181 855 .none (.ref 856) (.ref 857) (.ref 858) 1316 1317
def o886:Ob:=f1 "_law_after" "_law_after" (top 69) 3 (q "law_slowroad_k63_wishes_of_a_hand" 1243) 859
def o889:Ob:=tp [q "_law_hand" 1322,q "_law_due" 1323,q "_law_sender" 1324,q "_law_place" 1325,q "_law_found" 1326]
def o891:Ob:=f0 "_law_put" "_law_put" (top 70)
def o892:Ob:=cd "_law_put" 1319 "_law_put" 1320 1321 489 2 0 0 3 861 true 181 862 .none (.ref 863) (.ref 864) (.ref 865) 1327 1328
def o893:Ob:=f1 "_law_put" "_law_put" (top 70) 3 (q "law_slowroad_k63_wishes_of_a_hand" 1243) 866
def o896:Ob:=tp [q "_law_hand" 1333,q "_law_terms_here" 1334,q "_law_side" 1335,q "_law_ways" 1336,q "_law_k" 1337]
def o898:Ob:=f0 "_law_made_by" "_law_made_by" (top 71)
def o899:Ob:=cd "_law_made_by" 1330 "_law_made_by" 1331 1332 498 3 0 0 3 868 true 181 869 .none (.ref 870) (.ref 871) (.ref 872) 1338 1339
def o900:Ob:=f1 "_law_made_by" "_law_made_by" (top 71) 3 (q "law_slowroad_k63_wishes_of_a_hand" 1243) 873
def o901(P:Pm):Ob:=⟨.type "dict",none,.dict #[den P "__name__" 165 (q "law_slowroad_k63_wishes_of_a_hand" 1243),den P "__doc__" 166 .none,den P "__package__" 167 .none,den P "__loader__" 168 (.builtin "__main__.__loader__#opaque"),den P "__spec__" 169 .none,den P "__annotations__" 170 (.ref 6),den P "__builtins__" 171 (.ref 4),den P "__file__" 173 (q "/claim/cut.py" 172),den P "__cached__" 174 .none,den P "_wall" 193 (.ref 21),den P "RoadError" 213 (.ref 31),den P "NoPiece" 238 (.ref 51),den P "BadTerms" 254 (.ref 63),den P "NotWide" 279 (.ref 82),den P "BadText" 295 (.ref 94),den P "NotNow" 322 (.ref 113),den P "is_from" 333 (.ref 122),den P "KINDS" 341 (.ref 123),den P "SIGNS" 343 (q " !\"#$&'()*+,-./0123456789:;<=>?@ABCDEFGHIJKLMNOPQRSTUVWXYZ[\\]^_`abcdefghijklmnopqrstuvwxyz{|}~" 342),den P "UNNUMBERED" 346 (.ref 124),den P "NUMBER_MOST" 348 (.int 63 347),den P "ROOM_MOST_pieces" 350 (.int 16 349),den P "HELD_MOST" 352 (.int 15 351),den P "SIGNS_MOST" 354 (.int 4 353),den P "CHECK_BITS" 356 (.int 8 355),den P "DIVISOR" 358 (.int 263 357),den P "DIVISOR_BITS" 360 (.int 9 359),den P "REMAINDER_MOST" 362 (.int 255 361),den P "is_piece" 370 (.ref 131),den P "is_held" 379 (.ref 138),den P "are_signs" 385 (.ref 143),den P "remainder" 393 (.ref 150),den P "written" 401 (.ref 157),den P "body_of" 409 (.ref 164),den P "bits_of_held" 415 (.ref 169),den P "bits_of_signs" 424 (.ref 176),den P "Meter" 494 (.ref 228),den P "Ways" 567 (.ref 284),den P "KNOWN_TO_HURRY" 571 (.int 2 570),den P "Sender" 755 (.ref 429),den P "State" 826 (.ref 492),den P "Shut" 863 (.ref 527),den P "Calling" 907 (.ref 567),den P "Leaving" 944 (.ref 600),den P "Taker" 1019 (.ref 652),den P "TEXT_MOST" 1023 (.int 60 1022),den P "BEGIN" 1026 (.ref 657),den P "END" 1029 (.ref 658),den P "is_text" 1035 (.ref 663),den P "Hand" 1175 (.ref 764),den P "need" 1185 (.ref 775),den P "RING_MOST" 1189 (.int 64 1188),den P "ROOM_MOST_terms" 1191 (.int 16 1190),den P "LAG_MOST" 1193 (.int 32 1192),den P "WAIT_LEAST" 1195 (.int 2 1194),den P "WAIT_MOST" 1197 (.int 64 1196),den P "are_rooms" 1203 (.ref 780),den P "are_waits" 1211 (.ref 787),den P "Terms" 1242 (.ref 802),den P "_law_cell_at" 1252 (.ref 813),den P "_law_mixed" 1262 (.ref 820),den P "_law_terms" 1268 (.ref 825),den P "_law_text" 1279 (.ref 832),den P "_law_bad_text" 1288 (.ref 839),den P "_law_bad" 1298 (.ref 846),den P "_law_wished" 1310 (.ref 853),den P "_law_after" 1318 (.ref 860),den P "_law_put" 1329 (.ref 867),den P "_law_made_by" 1340 (.ref 874),den P "_law_step" 1346 (.ref 879),den P "law" 1360 (.ref 886)] 71,#[]⟩
def o902:Ob:=lt 126
def o905:Ob:=f0 "_law_step" "_law_step" (top 72)
def o906:Ob:=cd "_law_step" 1341 "_law_step" 1342 1343 508 4 0 0 3 875 true 181 876 .none .none .none (.ref 877) 1344 1345
def o907:Ob:=f1 "_law_step" "_law_step" (top 72) 3 (q "law_slowroad_k63_wishes_of_a_hand" 1243) 878
def o910:Ob:=tp [q "_law_script" 1350,q "_law_terms_here" 1351,q "_law_hands" 1352,q "_law_names" 1353,q "_law_dues" 1354,q "_law_cell" 1355,q "_law_at" 1356,q "_law_side" 1357]
def o912:Ob:=f0 "law" "law" (top 73)
def o913:Ob:=cd "law" 1347 "law" 1348 1349 528 1 0 0 3 880 true 181 881 .none (.ref 882) (.ref 883) (.ref 884) 1358 1359
def o914:Ob:=f1 "law" "law" (top 73) 3 (q "law_slowroad_k63_wishes_of_a_hand" 1243) 885
def hdK : Params → Frag := fun P => (nat_lit 2,boot_o_2 P)::(nat_lit 3,o901 P)::(nat_lit 15,o11)::(nat_lit 17,o19)::(nat_lit 18,o11)::(nat_lit 20,o22)::(nat_lit 21,o23)::(nat_lit 22,o24)::(nat_lit 29,o11)::(nat_lit 30,o32 P)::(nat_lit 31,o104)::(nat_lit 32,o34)::(nat_lit 35,o37)::(nat_lit 42,o11)::(nat_lit 44,o46)::(nat_lit 45,o11)::(nat_lit 47,o49)::(nat_lit 48,o50)::(nat_lit 49,o51)::(nat_lit 50,o52 P)::(nat_lit 51,o53)::(nat_lit 54,o37)::(nat_lit 61,o11)::(nat_lit 62,o64 P)::(nat_lit 63,o65)::(nat_lit 66,o37)::(nat_lit 73,o11)::(nat_lit 75,o80)::(nat_lit 76,o11)::(nat_lit 78,o83)::(nat_lit 79,o84)::(nat_lit 80,o85)::(nat_lit 81,o86 P)::(nat_lit 82,o87)::(nat_lit 85,o37)::(nat_lit 92,o11)::(nat_lit 93,o98 P)::(nat_lit 94,o99)::(nat_lit 97,o37)::(nat_lit 104,o11)::(nat_lit 106,o114)::(nat_lit 107,o11)::(nat_lit 109,o117)::(nat_lit 110,o118)::(nat_lit 111,o119)::(nat_lit 112,o120 P)::(nat_lit 113,o121)::(nat_lit 116,o11)::(nat_lit 118,o126)::(nat_lit 119,o11)::(nat_lit 121,o129)::(nat_lit 122,o130)::(nat_lit 123,o131)::(nat_lit 124,o132)::(nat_lit 125,o11)::(nat_lit 127,o135)::(nat_lit 128,o11)::(nat_lit 130,o138)::(nat_lit 131,o139)::(nat_lit 132,o11)::(nat_lit 134,o142)::(nat_lit 135,o11)::(nat_lit 137,o145)::(nat_lit 138,o146)::(nat_lit 139,o11)::(nat_lit 142,o150)::(nat_lit 143,o151)::(nat_lit 144,o11)::(nat_lit 146,o154)::(nat_lit 147,o11)::(nat_lit 149,o157)::(nat_lit 150,o158)::(nat_lit 151,o11)::(nat_lit 153,o161)::(nat_lit 154,o11)::(nat_lit 156,o164)::(nat_lit 157,o165)::(nat_lit 158,o11)::(nat_lit 160,o168)::(nat_lit 161,o11)::(nat_lit 163,o171)::(nat_lit 164,o172)::(nat_lit 165,o11)::(nat_lit 168,o176)::(nat_lit 169,o177)::(nat_lit 170,o11)::(nat_lit 172,o180)::(nat_lit 173,o11)::(nat_lit 175,o183)::(nat_lit 176,o184)::(nat_lit 184,o11)::(nat_lit 186,o196)::(nat_lit 187,o11)::(nat_lit 189,o199)::(nat_lit 190,o200)::(nat_lit 191,o11)::(nat_lit 193,o203)::(nat_lit 194,o11)::(nat_lit 196,o206)::(nat_lit 197,o207)::(nat_lit 198,o11)::(nat_lit 200,o210)::(nat_lit 201,o11)::(nat_lit 203,o213)::(nat_lit 204,o214)::(nat_lit 205,o11)::(nat_lit 207,o217)::(nat_lit 208,o11)::(nat_lit 210,o220)::(nat_lit 211,o221)::(nat_lit 212,o11)::(nat_lit 214,o224)::(nat_lit 215,o11)::(nat_lit 217,o227)::(nat_lit 218,o228)::(nat_lit 219,o11)::(nat_lit 221,o231)::(nat_lit 222,o11)::(nat_lit 224,o234)::(nat_lit 225,o235)::(nat_lit 226,o236)::(nat_lit 227,o237 P)::(nat_lit 228,o238)::(nat_lit 229,o239)::(nat_lit 230,o240)::(nat_lit 240,o11)::(nat_lit 242,o254)::(nat_lit 243,o11)::(nat_lit 245,o257)::(nat_lit 246,o258)::(nat_lit 247,o11)::(nat_lit 249,o261)::(nat_lit 250,o11)::(nat_lit 252,o264)::(nat_lit 253,o265)::(nat_lit 254,o11)::(nat_lit 256,o268)::(nat_lit 257,o11)::(nat_lit 259,o271)::(nat_lit 260,o272)::(nat_lit 261,o11)::(nat_lit 263,o275)::(nat_lit 264,o11)::(nat_lit 266,o278)::(nat_lit 267,o279)::(nat_lit 268,o11)::(nat_lit 270,o282)::(nat_lit 271,o11)::(nat_lit 273,o285)::(nat_lit 274,o286)::(nat_lit 275,o11)::(nat_lit 277,o289)::(nat_lit 278,o11)::(nat_lit 280,o292)::(nat_lit 281,o293)::(nat_lit 282,o294)::(nat_lit 283,o295 P)::(nat_lit 284,o296)::(nat_lit 285,o297)::(nat_lit 286,o298)::(nat_lit 296,o11)::(nat_lit 298,o312)::(nat_lit 299,o11)::(nat_lit 301,o315)::(nat_lit 302,o316)::(nat_lit 303,o11)::(nat_lit 305,o319)::(nat_lit 306,o11)::(nat_lit 308,o322)::(nat_lit 309,o323)::(nat_lit 310,o11)::(nat_lit 312,o326)::(nat_lit 313,o11)::(nat_lit 315,o329)::(nat_lit 316,o330)::(nat_lit 317,o11)::(nat_lit 319,o333)::(nat_lit 320,o11)::(nat_lit 322,o336)::(nat_lit 323,o337)::(nat_lit 324,o11)::(nat_lit 326,o340)::(nat_lit 327,o11)::(nat_lit 329,o343)::(nat_lit 330,o344)::(nat_lit 331,o11)::(nat_lit 333,o347)::(nat_lit 334,o11)::(nat_lit 336,o350)::(nat_lit 337,o351)::(nat_lit 338,o11)::(nat_lit 340,o354)::(nat_lit 341,o11)::(nat_lit 343,o357)::(nat_lit 344,o358)::(nat_lit 345,o11)::(nat_lit 347,o361)::(nat_lit 348,o11)::(nat_lit 350,o364)::(nat_lit 351,o365)::(nat_lit 352,o11)::(nat_lit 355,o369)::(nat_lit 356,o370)::(nat_lit 357,o11)::(nat_lit 359,o373)::(nat_lit 360,o11)::(nat_lit 362,o376)::(nat_lit 363,o377)::(nat_lit 364,o11)::(nat_lit 366,o380)::(nat_lit 367,o11)::(nat_lit 369,o383)::(nat_lit 370,o384)::(nat_lit 371,o11)::(nat_lit 373,o387)::(nat_lit 374,o11)::(nat_lit 376,o390)::(nat_lit 377,o391)::(nat_lit 378,o11)::(nat_lit 380,o394)::(nat_lit 381,o11)::(nat_lit 383,o397)::(nat_lit 384,o398)::(nat_lit 385,o11)::(nat_lit 387,o401)::(nat_lit 388,o11)::(nat_lit 390,o404)::(nat_lit 391,o405)::(nat_lit 392,o11)::(nat_lit 394,o408)::(nat_lit 395,o11)::(nat_lit 397,o411)::(nat_lit 398,o412)::(nat_lit 399,o11)::(nat_lit 401,o415)::(nat_lit 402,o11)::(nat_lit 404,o418)::(nat_lit 405,o419)::(nat_lit 406,o11)::(nat_lit 408,o422)::(nat_lit 409,o11)::(nat_lit 411,o425)::(nat_lit 412,o426)::(nat_lit 413,o11)::(nat_lit 415,o429)::(nat_lit 416,o11)::(nat_lit 418,o432)::(nat_lit 419,o433)::(nat_lit 420,o11)::(nat_lit 422,o436)::(nat_lit 423,o11)::(nat_lit 425,o439)::(nat_lit 426,o440)::(nat_lit 427,o441)::(nat_lit 428,o442 P)::(nat_lit 429,o443)::(nat_lit 430,o444)::(nat_lit 431,o445)::(nat_lit 441,o11)::(nat_lit 443,o459)::(nat_lit 444,o11)::(nat_lit 446,o462)::(nat_lit 447,o463)::(nat_lit 448,o11)::(nat_lit 450,o466)::(nat_lit 451,o11)::(nat_lit 453,o469)::(nat_lit 454,o470)::(nat_lit 455,o11)::(nat_lit 457,o473)::(nat_lit 458,o11)::(nat_lit 460,o476)::(nat_lit 461,o477)::(nat_lit 462,o11)::(nat_lit 464,o480)::(nat_lit 465,o11)::(nat_lit 467,o483)::(nat_lit 468,o484)::(nat_lit 469,o11)::(nat_lit 471,o487)::(nat_lit 472,o11)::(nat_lit 474,o490)::(nat_lit 475,o491)::(nat_lit 476,o11)::(nat_lit 478,o494)::(nat_lit 479,o11)::(nat_lit 481,o497)::(nat_lit 482,o498)::(nat_lit 483,o11)::(nat_lit 485,o501)::(nat_lit 486,o11)::(nat_lit 488,o504)::(nat_lit 489,o505)::(nat_lit 490,o11)::(nat_lit 491,o507 P)::(nat_lit 492,o591)::(nat_lit 493,o509)::(nat_lit 494,o510)::(nat_lit 497,o516)::(nat_lit 504,o11)::(nat_lit 506,o525)::(nat_lit 507,o11)::(nat_lit 509,o528)::(nat_lit 510,o529)::(nat_lit 511,o11)::(nat_lit 513,o532)::(nat_lit 514,o11)::(nat_lit 516,o535)::(nat_lit 517,o536)::(nat_lit 518,o11)::(nat_lit 520,o539)::(nat_lit 521,o11)::(nat_lit 523,o542)::(nat_lit 524,o543)::(nat_lit 525,o11)::(nat_lit 526,o545 P)::(nat_lit 527,o546)::(nat_lit 530,o516)::(nat_lit 537,o11)::(nat_lit 539,o558)::(nat_lit 540,o11)::(nat_lit 542,o561)::(nat_lit 543,o562)::(nat_lit 544,o11)::(nat_lit 546,o565)::(nat_lit 547,o11)::(nat_lit 549,o568)::(nat_lit 550,o569)::(nat_lit 551,o11)::(nat_lit 553,o572)::(nat_lit 554,o11)::(nat_lit 556,o575)::(nat_lit 557,o576)::(nat_lit 558,o11)::(nat_lit 560,o579)::(nat_lit 561,o11)::(nat_lit 563,o582)::(nat_lit 564,o583)::(nat_lit 565,o11)::(nat_lit 566,o585 P)::(nat_lit 567,o586)::(nat_lit 570,o516)::(nat_lit 577,o11)::(nat_lit 579,o601)::(nat_lit 580,o11)::(nat_lit 582,o604)::(nat_lit 583,o605)::(nat_lit 584,o11)::(nat_lit 586,o608)::(nat_lit 587,o11)::(nat_lit 589,o611)::(nat_lit 590,o612)::(nat_lit 591,o11)::(nat_lit 593,o615)::(nat_lit 594,o11)::(nat_lit 596,o618)::(nat_lit 597,o619)::(nat_lit 598,o11)::(nat_lit 599,o621 P)::(nat_lit 600,o622)::(nat_lit 610,o11)::(nat_lit 612,o634)::(nat_lit 613,o11)::(nat_lit 615,o637)::(nat_lit 616,o638)::(nat_lit 617,o11)::(nat_lit 619,o641)::(nat_lit 620,o11)::(nat_lit 622,o644)::(nat_lit 623,o645)::(nat_lit 624,o11)::(nat_lit 626,o648)::(nat_lit 627,o11)::(nat_lit 629,o651)::(nat_lit 630,o652)::(nat_lit 631,o11)::(nat_lit 633,o655)::(nat_lit 634,o11)::(nat_lit 636,o658)::(nat_lit 637,o659)::(nat_lit 638,o11)::(nat_lit 641,o663)::(nat_lit 642,o664)::(nat_lit 643,o11)::(nat_lit 645,o667)::(nat_lit 646,o11)::(nat_lit 648,o670)::(nat_lit 649,o671)::(nat_lit 650,o672)::(nat_lit 651,o673 P)::(nat_lit 652,o674)::(nat_lit 653,o675)::(nat_lit 654,o676)::(nat_lit 657,o681)::(nat_lit 658,o682)::(nat_lit 659,o11)::(nat_lit 662,o686)::(nat_lit 663,o687)::(nat_lit 671,o11)::(nat_lit 673,o697)::(nat_lit 674,o11)::(nat_lit 676,o700)::(nat_lit 677,o701)::(nat_lit 678,o11)::(nat_lit 680,o704)::(nat_lit 681,o11)::(nat_lit 683,o707)::(nat_lit 684,o708)::(nat_lit 685,o11)::(nat_lit 687,o711)::(nat_lit 688,o11)::(nat_lit 690,o714)::(nat_lit 691,o715)::(nat_lit 692,o11)::(nat_lit 694,o718)::(nat_lit 695,o11)::(nat_lit 697,o721)::(nat_lit 698,o722)::(nat_lit 699,o11)::(nat_lit 701,o725)::(nat_lit 702,o11)::(nat_lit 704,o728)::(nat_lit 705,o729)::(nat_lit 706,o11)::(nat_lit 708,o732)::(nat_lit 709,o11)::(nat_lit 711,o735)::(nat_lit 712,o736)::(nat_lit 713,o11)::(nat_lit 715,o739)::(nat_lit 716,o11)::(nat_lit 718,o742)::(nat_lit 719,o743)::(nat_lit 720,o11)::(nat_lit 722,o746)::(nat_lit 723,o11)::(nat_lit 725,o749)::(nat_lit 726,o750)::(nat_lit 727,o11)::(nat_lit 729,o753)::(nat_lit 730,o11)::(nat_lit 732,o756)::(nat_lit 733,o757)::(nat_lit 734,o11)::(nat_lit 736,o760)::(nat_lit 737,o11)::(nat_lit 739,o763)::(nat_lit 740,o764)::(nat_lit 741,o11)::(nat_lit 743,o767)::(nat_lit 744,o11)::(nat_lit 746,o770)::(nat_lit 747,o771)::(nat_lit 748,o11)::(nat_lit 750,o774)::(nat_lit 751,o11)::(nat_lit 753,o777)::(nat_lit 754,o778)::(nat_lit 755,o11)::(nat_lit 757,o781)::(nat_lit 758,o11)::(nat_lit 760,o784)::(nat_lit 761,o785)::(nat_lit 762,o786)::(nat_lit 763,o787 P)::(nat_lit 764,o788)::(nat_lit 765,o789)::(nat_lit 766,o790)::(nat_lit 769,o11)::(nat_lit 771,o797)::(nat_lit 772,o11)::(nat_lit 774,o800)::(nat_lit 775,o801)::(nat_lit 776,o11)::(nat_lit 779,o805)::(nat_lit 780,o806)::(nat_lit 781,o11)::(nat_lit 783,o809)::(nat_lit 784,o11)::(nat_lit 786,o812)::(nat_lit 787,o813)::(nat_lit 795,o11)::(nat_lit 798,o824)::(nat_lit 799,o825)::(nat_lit 800,o826)::(nat_lit 801,o827 P)::(nat_lit 802,o828)::(nat_lit 803,o829)::(nat_lit 804,o830)::(nat_lit 807,o11)::(nat_lit 809,o835)::(nat_lit 810,o11)::(nat_lit 812,o838)::(nat_lit 813,o839)::(nat_lit 814,o11)::(nat_lit 816,o842)::(nat_lit 817,o11)::(nat_lit 819,o845)::(nat_lit 820,o846)::(nat_lit 821,o11)::(nat_lit 824,o850)::(nat_lit 825,o851)::(nat_lit 826,o11)::(nat_lit 828,o854)::(nat_lit 829,o11)::(nat_lit 831,o857)::(nat_lit 832,o858)::(nat_lit 833,o11)::(nat_lit 835,o861)::(nat_lit 836,o11)::(nat_lit 838,o864)::(nat_lit 839,o865)::(nat_lit 840,o11)::(nat_lit 842,o868)::(nat_lit 843,o11)::(nat_lit 845,o871)::(nat_lit 846,o872)::(nat_lit 847,o11)::(nat_lit 849,o875)::(nat_lit 850,o11)::(nat_lit 852,o878)::(nat_lit 853,o879)::(nat_lit 854,o11)::(nat_lit 856,o882)::(nat_lit 857,o11)::(nat_lit 859,o885)::(nat_lit 860,o886)::(nat_lit 861,o11)::(nat_lit 863,o889)::(nat_lit 864,o11)::(nat_lit 866,o892)::(nat_lit 867,o893)::(nat_lit 868,o11)::(nat_lit 870,o896)::(nat_lit 871,o11)::(nat_lit 873,o899)::(nat_lit 874,o900)::(nat_lit 875,o11)::(nat_lit 878,o906)::(nat_lit 879,o907)::(nat_lit 880,o11)::(nat_lit 882,o910)::(nat_lit 883,o11)::(nat_lit 885,o913)::(nat_lit 886,o914)::[]
def hdView : Program := { Challenge.pw_slowroad_k63_wishes_of_a_hand with main := { Challenge.pw_slowroad_k63_wishes_of_a_hand.main with body := [top 0, top 2, top 3, top 4, top 5, top 6, top 7, top 9, top 11, top 12, top 13, top 14, top 15, top 16, top 17, top 18, top 19, top 20, top 21, top 22, top 23, top 24, top 25, top 26, top 27, top 28, top 29, top 31, top 33, top 35, top 36, top 38, top 39, top 40, top 41, top 43, top 45, top 46, top 47, top 48, top 49, top 51, top 53, top 54, top 55, top 56, top 57, top 58, top 59, top 60, top 62, top 63, top 64, top 65, top 66, top 67, top 68, top 69, top 70, top 71, top 72, top 73] } }
def hdAdr : List Addr := [2, 3, 15, 17, 18, 20, 21, 22, 29, 30, 31, 32, 35, 42, 44, 45, 47, 48, 49, 50, 51, 54, 61, 62, 63, 66, 73, 75, 76, 78, 79, 80, 81, 82, 85, 92, 93, 94, 97, 104, 106, 107, 109, 110, 111, 112, 113, 116, 118, 119, 121, 122, 123, 124, 125, 127, 128, 130, 131, 132, 134, 135, 137, 138, 139, 142, 143, 144, 146, 147, 149, 150, 151, 153, 154, 156, 157, 158, 160, 161, 163, 164, 165, 168, 169, 170, 172, 173, 175, 176, 184, 186, 187, 189, 190, 191, 193, 194, 196, 197, 198, 200, 201, 203, 204, 205, 207, 208, 210, 211, 212, 214, 215, 217, 218, 219, 221, 222, 224, 225, 226, 227, 228, 229, 230, 240, 242, 243, 245, 246, 247, 249, 250, 252, 253, 254, 256, 257, 259, 260, 261, 263, 264, 266, 267, 268, 270, 271, 273, 274, 275, 277, 278, 280, 281, 282, 283, 284, 285, 286, 296, 298, 299, 301, 302, 303, 305, 306, 308, 309, 310, 312, 313, 315, 316, 317, 319, 320, 322, 323, 324, 326, 327, 329, 330, 331, 333, 334, 336, 337, 338, 340, 341, 343, 344, 345, 347, 348, 350, 351, 352, 355, 356, 357, 359, 360, 362, 363, 364, 366, 367, 369, 370, 371, 373, 374, 376, 377, 378, 380, 381, 383, 384, 385, 387, 388, 390, 391, 392, 394, 395, 397, 398, 399, 401, 402, 404, 405, 406, 408, 409, 411, 412, 413, 415, 416, 418, 419, 420, 422, 423, 425, 426, 427, 428, 429, 430, 431, 441, 443, 444, 446, 447, 448, 450, 451, 453, 454, 455, 457, 458, 460, 461, 462, 464, 465, 467, 468, 469, 471, 472, 474, 475, 476, 478, 479, 481, 482, 483, 485, 486, 488, 489, 490, 491, 492, 493, 494, 497, 504, 506, 507, 509, 510, 511, 513, 514, 516, 517, 518, 520, 521, 523, 524, 525, 526, 527, 530, 537, 539, 540, 542, 543, 544, 546, 547, 549, 550, 551, 553, 554, 556, 557, 558, 560, 561, 563, 564, 565, 566, 567, 570, 577, 579, 580, 582, 583, 584, 586, 587, 589, 590, 591, 593, 594, 596, 597, 598, 599, 600, 610, 612, 613, 615, 616, 617, 619, 620, 622, 623, 624, 626, 627, 629, 630, 631, 633, 634, 636, 637, 638, 641, 642, 643, 645, 646, 648, 649, 650, 651, 652, 653, 654, 657, 658, 659, 662, 663, 671, 673, 674, 676, 677, 678, 680, 681, 683, 684, 685, 687, 688, 690, 691, 692, 694, 695, 697, 698, 699, 701, 702, 704, 705, 706, 708, 709, 711, 712, 713, 715, 716, 718, 719, 720, 722, 723, 725, 726, 727, 729, 730, 732, 733, 734, 736, 737, 739, 740, 741, 743, 744, 746, 747, 748, 750, 751, 753, 754, 755, 757, 758, 760, 761, 762, 763, 764, 765, 766, 769, 771, 772, 774, 775, 776, 779, 780, 781, 783, 784, 786, 787, 795, 798, 799, 800, 801, 802, 803, 804, 807, 809, 810, 812, 813, 814, 816, 817, 819, 820, 821, 824, 825, 826, 828, 829, 831, 832, 833, 835, 836, 838, 839, 840, 842, 843, 845, 846, 847, 849, 850, 852, 853, 854, 856, 857, 859, 860, 861, 863, 864, 866, 867, 868, 870, 871, 873, 874, 875, 878, 879, 880, 882, 883, 885, 886]
theorem hd_he : ∀ P, hdAdr = (hdK P).map (·.1) := fun _ => by kernel_rfl
def hdEnv : Env := { scope := Challenge.rw_slowroad_k63_wishes_of_a_hand.row.prog.main.scope, locals := mainNs, globals := mainNs, cells := [], code := Value.ref 13, frame := some 14 }
def hdBody : List Stmt := behindTheImports Challenge.rw_slowroad_k63_wishes_of_a_hand.row.prog
def hdC : Code := .body hdBody hdEnv
abbrev hdB : List Frame := [topFrame (Pos.mk 0 0 0 0)]
abbrev hdn : Option Value := Option.some (Value.ref 6)
def hpre : Params → Heap := fun P => ⟨Array.mk [boot_o_0 P, boot_o_1 P, boot_o_2 P, boot_o_3 P, boot_o_4 P, boot_o_5 P, boot_o_6 P, boot_o_7 P, boot_o_8 P, boot_o_9 P, boot_o_10 P, o11, o12, o13, o14], Life.mk List.nil List.nil List.nil 0 List.nil List.nil Bool.false (List.toArray List.nil) List.nil 0 Bool.false Bool.false Bool.false 0 (List.cons 2000 (List.cons 10 (List.cons 10 List.nil))) Bool.false 0 Bool.true List.nil List.nil 0 Bool.false⟩
theorem hd_pre (w : World) (os : OsState) : topGo treeTable Challenge.rw_slowroad_k63_wishes_of_a_hand.row.prog w 11 hdn 12 (⟨boot_heap w.params, Array.mk [], boot_drawn, boot_toks, os⟩ : Shared) (topStub Challenge.rw_slowroad_k63_wishes_of_a_hand.row.prog) = some ((⟨hpre w.params, Array.mk [], Drawn.mk 0 0 0 0, 187, os⟩ : Shared), ⟨denote treeTable hdC, hdC, Pos.mk 0 0 0 0, hdB⟩) := by kernel_rfl
def ht_block (P : Pm) : BT := up [boot_o_0 P,boot_o_1 P,boot_o_2 P,boot_o_3 P,boot_o_4 P,boot_o_5 P,boot_o_6 P,boot_o_7 P,boot_o_8 P,boot_o_9 P,boot_o_10 P,o11,o12,o13,o14] .nil 0
abbrev lif : Life := Life.mk List.nil List.nil List.nil 0 List.nil List.nil Bool.false (List.toArray List.nil) List.nil 0 Bool.false Bool.false Bool.false 0 (List.cons 2000 (List.cons 10 (List.cons 10 List.nil))) Bool.false 0 Bool.true List.nil List.nil 0 Bool.false
abbrev hs_block (w : World) (os : OsState) : SharedT := SharedT.mk (ht_block w.params) 15 lif (Array.mk []) (Drawn.mk 0 0 0 0) 187 os
theorem hd_blk (w : World) (os : OsState) : segRun treeTable Challenge.rw_slowroad_k63_wishes_of_a_hand.row.prog w 11 hdn 1 1 (⟨hpre w.params, Array.mk [], Drawn.mk 0 0 0 0, 187, os⟩ : Shared) (blockOf hdBody hdEnv hdC (Pos.mk 0 0 0 0) hdB) = some (.next, ((hs_block w os)).abs, hdC, Pos.mk 0 0 0 0) := by kernel_rfl
def ht_g5 (P : Pm) : BT := up [o11,o12,o19,o11,o21,o22,o23,o24,o25,o26 P,o11,o12,o29,o30,o11,o32 P,o33,o34,o35,o36,o37,o25,o39 P,o11,o41,o42,o43,o11,o12,o46,o11,o48,o49,o50,o51,o52 P,o53,o54,o55,o37,o25,o58 P,o11,o12,o61,o62,o11,o64 P,o65,o66,o67] (ch [(3,o15 P),(12,o16)] (ht_block P)) 15
abbrev hs_g5 (w : World) (os : OsState) : SharedT := SharedT.mk (ht_g5 w.params) 66 lif (Array.mk []) (Drawn.mk 0 0 0 0) 255 os
def hg5 : List Stmt := (hdBody.drop 0).take 5
theorem hd_g5 (w : World) (os : OsState) : segRunT treeTable Challenge.rw_slowroad_k63_wishes_of_a_hand.row.prog w 11 hdn 1 683 (hs_block w os) (piecesOf hg5 hdEnv hdC (Pos.mk 0 0 0 0) hdB) = some (.next, (hs_g5 w os), hdC, Pos.mk 11 0 12 8) := by kernel_rfl
def ht_g7 (P : Pm) : BT := up [o37,o25,o73 P,o11,o75,o76,o77,o11,o12,o80,o11,o82,o83,o84,o85,o86 P,o87,o88,o89,o37,o25,o92 P,o11,o12,o95,o96,o11,o98 P,o99,o100,o101] (ch [(3,o68 P),(12,o69),(31,o70)] (ht_g5 P)) 66
abbrev hs_g7 (w : World) (os : OsState) : SharedT := SharedT.mk (ht_g7 w.params) 97 lif (Array.mk []) (Drawn.mk 0 0 0 0) 296 os
def hg7 : List Stmt := (hdBody.drop 5).take 2
theorem hd_g7 (w : World) (os : OsState) : segRunT treeTable Challenge.rw_slowroad_k63_wishes_of_a_hand.row.prog w 11 hdn 1 459 (hs_g5 w os) (piecesOf hg7 hdEnv hdC (Pos.mk 11 0 12 8) hdB) = some (.next, (hs_g7 w os), hdC, Pos.mk 17 0 18 8) := by kernel_rfl
def ht_g31 (P : Pm) : BT := up [o37,o25,o107 P,o11,o109,o110,o111,o11,o12,o114,o11,o116,o117,o118,o119,o120 P,o121,o122,o123,o11,o12,o126,o11,o128,o129,o130,o131,o132,o11,o12,o135,o11,o137,o138,o139,o11,o12,o142,o11,o144,o145,o146,o11,o12,o149,o150,o151,o11,o12,o154,o11,o156,o157,o158,o11,o12,o161,o11,o163,o164,o165,o11,o12,o168,o11,o170,o171,o172,o11,o12,o175,o176,o177,o11,o12,o180,o11,o182,o183,o184] (ch [(3,o102 P),(12,o103),(31,o104)] (ht_g7 P)) 97
abbrev hs_g31 (w : World) (os : OsState) : SharedT := SharedT.mk (ht_g31 w.params) 177 lif (Array.mk []) (Drawn.mk 0 0 0 0) 427 os
def hg31 : List Stmt := (hdBody.drop 7).take 24
theorem hd_g31 (w : World) (os : OsState) : segRunT treeTable Challenge.rw_slowroad_k63_wishes_of_a_hand.row.prog w 11 hdn 1 648 (hs_g7 w os) (piecesOf hg31 hdEnv hdC (Pos.mk 17 0 18 8) hdB) = some (.next, (hs_g31 w os), hdC, Pos.mk 84 0 84 8) := by kernel_rfl
def ht_g33 (P : Pm) : BT := up [o11,o25,o189 P,o11,o191,o192,o193,o11,o12,o196,o11,o198,o199,o200,o11,o12,o203,o11,o205,o206,o207,o11,o12,o210,o11,o212,o213,o214,o11,o12,o217,o11,o219,o220,o221,o11,o12,o224,o11,o226,o227,o228,o11,o12,o231,o11,o233,o234,o235,o236,o237 P,o238,o239,o240,o241,o242] (ch [(3,o185 P),(12,o186)] (ht_g31 P)) 177
abbrev hs_g33 (w : World) (os : OsState) : SharedT := SharedT.mk (ht_g33 w.params) 233 lif (Array.mk []) (Drawn.mk 0 0 0 0) 497 os
def hg33 : List Stmt := (hdBody.drop 31).take 2
theorem hd_g33 (w : World) (os : OsState) : segRunT treeTable Challenge.rw_slowroad_k63_wishes_of_a_hand.row.prog w 11 hdn 1 391 (hs_g31 w os) (piecesOf hg33 hdEnv hdC (Pos.mk 84 0 84 8) hdB) = some (.next, (hs_g33 w os), hdC, Pos.mk 111 0 111 8) := by kernel_rfl
def ht_g36 (P : Pm) : BT := up [o11,o25,o247 P,o11,o249,o250,o251,o11,o12,o254,o11,o256,o257,o258,o11,o12,o261,o11,o263,o264,o265,o11,o12,o268,o11,o270,o271,o272,o11,o12,o275,o11,o277,o278,o279,o11,o12,o282,o11,o284,o285,o286,o11,o12,o289,o11,o291,o292,o293,o294,o295 P,o296,o297,o298,o299,o300] (ch [(3,o243 P),(12,o244)] (ht_g33 P)) 233
abbrev hs_g36 (w : World) (os : OsState) : SharedT := SharedT.mk (ht_g36 w.params) 289 lif (Array.mk []) (Drawn.mk 0 0 0 0) 572 os
def hg36 : List Stmt := (hdBody.drop 33).take 3
theorem hd_g36 (w : World) (os : OsState) : segRunT treeTable Challenge.rw_slowroad_k63_wishes_of_a_hand.row.prog w 11 hdn 1 403 (hs_g33 w os) (piecesOf hg36 hdEnv hdC (Pos.mk 111 0 111 8) hdB) = some (.next, (hs_g36 w os), hdC, Pos.mk 135 0 135 14) := by kernel_rfl
def ht_g37 (P : Pm) : BT := up [o11,o25,o305 P,o11,o307,o308,o309,o11,o12,o312,o11,o314,o315,o316,o11,o12,o319,o11,o321,o322,o323,o11,o12,o326,o11,o328,o329,o330,o11,o12,o333,o11,o335,o336,o337,o11,o12,o340,o11,o342,o343,o344,o11,o12,o347,o11,o349,o350,o351,o11,o12,o354,o11,o356,o357,o358,o11,o12,o361,o11,o363,o364,o365,o11,o12,o368,o369,o370,o11,o12,o373,o11,o375,o376,o377,o11,o12,o380,o11,o382,o383,o384,o11,o12,o387,o11,o389,o390,o391,o11,o12,o394,o11,o396,o397,o398,o11,o12,o401,o11,o403,o404,o405,o11,o12,o408,o11,o410,o411,o412,o11,o12,o415,o11,o417,o418,o419,o11,o12,o422,o11,o424,o425,o426,o11,o12,o429,o11,o431,o432,o433,o11,o12,o436,o11,o438,o439,o440,o441,o442 P,o443,o444,o445,o446,o447] (ch [(3,o301 P),(12,o302)] (ht_g36 P)) 289
abbrev hs_g37 (w : World) (os : OsState) : SharedT := SharedT.mk (ht_g37 w.params) 434 lif (Array.mk []) (Drawn.mk 0 0 0 0) 756 os
def hg37 : List Stmt := (hdBody.drop 36).take 1
theorem hd_g37 (w : World) (os : OsState) : segRunT treeTable Challenge.rw_slowroad_k63_wishes_of_a_hand.row.prog w 11 hdn 1 808 (hs_g36 w os) (piecesOf hg37 hdEnv hdC (Pos.mk 135 0 135 14) hdB) = some (.next, (hs_g37 w os), hdC, Pos.mk 136 0 230 28) := by kernel_rfl
def ht_g39 (P : Pm) : BT := up [o11,o25,o452 P,o11,o454,o455,o456,o11,o12,o459,o11,o461,o462,o463,o11,o12,o466,o11,o468,o469,o470,o11,o12,o473,o11,o475,o476,o477,o11,o12,o480,o11,o482,o483,o484,o11,o12,o487,o11,o489,o490,o491,o11,o12,o494,o11,o496,o497,o498,o11,o12,o501,o11,o503,o504,o505,o11,o507 P,o508,o509,o510,o511,o512] (ch [(3,o448 P),(12,o449)] (ht_g37 P)) 434
abbrev hs_g39 (w : World) (os : OsState) : SharedT := SharedT.mk (ht_g39 w.params) 497 lif (Array.mk []) (Drawn.mk 0 0 0 0) 827 os
def hg39 : List Stmt := (hdBody.drop 37).take 2
theorem hd_g39 (w : World) (os : OsState) : segRunT treeTable Challenge.rw_slowroad_k63_wishes_of_a_hand.row.prog w 11 hdn 1 416 (hs_g37 w os) (piecesOf hg39 hdEnv hdC (Pos.mk 136 0 230 28) hdB) = some (.next, (hs_g39 w os), hdC, Pos.mk 232 0 253 17) := by kernel_rfl
def ht_g41 (P : Pm) : BT := up [o516,o25,o518 P,o11,o520,o521,o522,o11,o12,o525,o11,o527,o528,o529,o11,o12,o532,o11,o534,o535,o536,o11,o12,o539,o11,o541,o542,o543,o11,o545 P,o546,o547,o548,o516,o25,o551 P,o11,o553,o554,o555,o11,o12,o558,o11,o560,o561,o562,o11,o12,o565,o11,o567,o568,o569,o11,o12,o572,o11,o574,o575,o576,o11,o12,o579,o11,o581,o582,o583,o11,o585 P,o586,o587,o588] (ch [(3,o513 P),(12,o514),(492,o515)] (ht_g39 P)) 497
abbrev hs_g41 (w : World) (os : OsState) : SharedT := SharedT.mk (ht_g41 w.params) 570 lif (Array.mk []) (Drawn.mk 0 0 0 0) 908 os
def hg41 : List Stmt := (hdBody.drop 39).take 2
theorem hd_g41 (w : World) (os : OsState) : segRunT treeTable Challenge.rw_slowroad_k63_wishes_of_a_hand.row.prog w 11 hdn 1 642 (hs_g39 w os) (piecesOf hg41 hdEnv hdC (Pos.mk 232 0 253 17) hdB) = some (.next, (hs_g41 w os), hdC, Pos.mk 264 0 276 17) := by kernel_rfl
def ht_g44 (P : Pm) : BT := up [o516,o25,o594 P,o11,o596,o597,o598,o11,o12,o601,o11,o603,o604,o605,o11,o12,o608,o11,o610,o611,o612,o11,o12,o615,o11,o617,o618,o619,o11,o621 P,o622,o623,o624,o11,o25,o627 P,o11,o629,o630,o631,o11,o12,o634,o11,o636,o637,o638,o11,o12,o641,o11,o643,o644,o645,o11,o12,o648,o11,o650,o651,o652,o11,o12,o655,o11,o657,o658,o659,o11,o12,o662,o663,o664,o11,o12,o667,o11,o669,o670,o671,o672,o673 P,o674,o675,o676,o677,o678] (ch [(3,o589 P),(12,o590),(492,o591)] (ht_g41 P)) 570
abbrev hs_g44 (w : World) (os : OsState) : SharedT := SharedT.mk (ht_g44 w.params) 657 lif (Array.mk []) (Drawn.mk 0 0 0 0) 1020 os
def hg44 : List Stmt := (hdBody.drop 41).take 3
theorem hd_g44 (w : World) (os : OsState) : segRunT treeTable Challenge.rw_slowroad_k63_wishes_of_a_hand.row.prog w 11 hdn 1 699 (hs_g41 w os) (piecesOf hg44 hdEnv hdC (Pos.mk 264 0 276 17) hdB) = some (.next, (hs_g44 w os), hdC, Pos.mk 288 0 315 21) := by kernel_rfl
def ht_g51 (P : Pm) : BT := up [o681,o682,o11,o12,o685,o686,o687,o11,o25,o690 P,o11,o692,o693,o694,o11,o12,o697,o11,o699,o700,o701,o11,o12,o704,o11,o706,o707,o708,o11,o12,o711,o11,o713,o714,o715,o11,o12,o718,o11,o720,o721,o722,o11,o12,o725,o11,o727,o728,o729,o11,o12,o732,o11,o734,o735,o736,o11,o12,o739,o11,o741,o742,o743,o11,o12,o746,o11,o748,o749,o750,o11,o12,o753,o11,o755,o756,o757,o11,o12,o760,o11,o762,o763,o764,o11,o12,o767,o11,o769,o770,o771,o11,o12,o774,o11,o776,o777,o778,o11,o12,o781,o11,o783,o784,o785,o786,o787 P,o788,o789,o790,o791,o792] (ch [(3,o679 P),(12,o680)] (ht_g44 P)) 657
abbrev hs_g51 (w : World) (os : OsState) : SharedT := SharedT.mk (ht_g51 w.params) 769 lif (Array.mk []) (Drawn.mk 0 0 0 0) 1178 os
def hg51 : List Stmt := (hdBody.drop 44).take 7
theorem hd_g51 (w : World) (os : OsState) : segRunT treeTable Challenge.rw_slowroad_k63_wishes_of_a_hand.row.prog w 11 hdn 1 699 (hs_g44 w os) (piecesOf hg51 hdEnv hdC (Pos.mk 288 0 315 21) hdB) = some (.next, (hs_g51 w os), hdC, Pos.mk 390 0 390 8) := by kernel_rfl
def ht_g72 (P : Pm) : BT := up [o11,o12,o797,o11,o799,o800,o801,o11,o12,o804,o805,o806,o11,o12,o809,o11,o811,o812,o813,o11,o25,o816 P,o11,o818,o819,o820,o11,o12,o823,o824,o825,o826,o827 P,o828,o829,o830,o831,o832,o11,o12,o835,o11,o837,o838,o839,o11,o12,o842,o11,o844,o845,o846,o11,o12,o849,o850,o851,o11,o12,o854,o11,o856,o857,o858,o11,o12,o861,o11,o863,o864,o865,o11,o12,o868,o11,o870,o871,o872,o11,o12,o875,o11,o877,o878,o879,o11,o12,o882,o11,o884,o885,o886,o11,o12,o889,o11,o891,o892,o893,o11,o12,o896,o11,o898,o899,o900] (ch [(3,o793 P),(12,o794)] (ht_g51 P)) 769
abbrev hs_g72 (w : World) (os : OsState) : SharedT := SharedT.mk (ht_g72 w.params) 875 lif (Array.mk []) (Drawn.mk 0 0 0 0) 1341 os
def hg72 : List Stmt := (hdBody.drop 51).take 21
theorem hd_g72 (w : World) (os : OsState) : segRunT treeTable Challenge.rw_slowroad_k63_wishes_of_a_hand.row.prog w 11 hdn 1 686 (hs_g51 w os) (piecesOf hg72 hdEnv hdC (Pos.mk 390 0 390 8) hdB) = some (.next, (hs_g72 w os), hdC, Pos.mk 498 0 507 52) := by kernel_rfl
def ht_g74 (P : Pm) : BT := up [o11,o12,o905,o906,o907,o11,o12,o910,o11,o912,o913,o914] (ch [(3,o901 P),(12,o902)] (ht_g72 P)) 875
abbrev hs_g74 (w : World) (os : OsState) : SharedT := SharedT.mk (ht_g74 w.params) 887 lif (Array.mk []) (Drawn.mk 0 0 0 0) 1361 os
def hg74 : List Stmt := (hdBody.drop 72).take 2
theorem hd_g74 (w : World) (os : OsState) : segRunT treeTable Challenge.rw_slowroad_k63_wishes_of_a_hand.row.prog w 11 hdn 1 63 (hs_g72 w os) (piecesOf hg74 hdEnv hdC (Pos.mk 498 0 507 52) hdB) = some (.next, (hs_g74 w os), hdC, Pos.mk 528 0 541 110) := by kernel_rfl
def hfin : Pm → Heap := fun P => ⟨Array.mk ((ht_g74 P).list 887), Life.mk List.nil List.nil List.nil 0 List.nil List.nil Bool.false (List.toArray List.nil) List.nil 0 Bool.false Bool.false Bool.false 0 (List.cons 2000 (List.cons 10 (List.cons 10 List.nil))) Bool.false 0 Bool.true List.nil List.nil 0 Bool.false⟩
theorem hd_fin (w : World) (os : OsState) : topRun treeTable Challenge.rw_slowroad_k63_wishes_of_a_hand.row.prog w 11 hdn 2 ((hs_g74 w os)).abs ⟨doneF .next, hdC, Pos.mk 528 0 541 110, hdB⟩ = some (⟨hfin w.params, Array.mk [], Drawn.mk 0 0 0 0, 1361, os⟩ : Shared) := by kernel_rfl
theorem hd_body : hdBody = hg5 ++ (hg7 ++ (hg31 ++ (hg33 ++ (hg36 ++ (hg37 ++ (hg39 ++ (hg41 ++ (hg44 ++ (hg51 ++ (hg72 ++ (hg74 ++ ([])))))))))))) := by kernel_rfl
theorem hd_rest (w : World) (os : OsState) : topRun treeTable Challenge.rw_slowroad_k63_wishes_of_a_hand.row.prog w 11 hdn 6599 ((hs_block w os)).abs (restOf hdBody hdEnv hdC (Pos.mk 0 0 0 0) hdB) = some (⟨hfin w.params, Array.mk [], Drawn.mk 0 0 0 0, 1361, os⟩ : Shared) := by
 rw [hd_body]; exact (piece_app (segRun_of (hd_g5 w os)) (piece_app (segRun_of (hd_g7 w os)) (piece_app (segRun_of (hd_g31 w os)) (piece_app (segRun_of (hd_g33 w os)) (piece_app (segRun_of (hd_g36 w os)) (piece_app (segRun_of (hd_g37 w os)) (piece_app (segRun_of (hd_g39 w os)) (piece_app (segRun_of (hd_g41 w os)) (piece_app (segRun_of (hd_g44 w os)) (piece_app (segRun_of (hd_g51 w os)) (piece_app (segRun_of (hd_g72 w os)) (piece_app (segRun_of (hd_g74 w os)) (piece_nil (hd_fin w os))))))))))))))
theorem hd_run (w : World) (os : OsState) : topRun treeTable Challenge.rw_slowroad_k63_wishes_of_a_hand.row.prog w 11 hdn 6612 (⟨boot_heap w.params, Array.mk [], boot_drawn, boot_toks, os⟩ : Shared) (topStub Challenge.rw_slowroad_k63_wishes_of_a_hand.row.prog) = some (⟨hfin w.params, Array.mk [], Drawn.mk 0 0 0 0, 1361, os⟩ : Shared) := go_top (n := 12) (N := 6600) (hd_pre w os) (piece_block (n := 1) (N := 6599) (hd_blk w os) (hd_rest w os))
theorem hd_open : ∀ w : World, (fencedOpening treeTable Challenge.rw_slowroad_k63_wishes_of_a_hand.row.prog w 13296).map (fun s => (s.heap, s.gens, s.drawn, s.toks)) = some (boot_heap w.params, Array.mk [], boot_drawn, boot_toks) := boot_open rfl (by decide) (fun s => rfl)
theorem hd_size : ∀ w : World, ((boot_heap w.params).isNs mainGlobals && (Array.mk [] : Array GenState).size == 0, (boot_heap w.params).objs.size, (boot_heap w.params).nsMap mainGlobals "__annotations__") = (true, 11, hdn) := fun w => by kernel_rfl
theorem hd_l1 (w : World) (os : OsState) : (staticsOk (importedModules Challenge.rw_slowroad_k63_wishes_of_a_hand.row.prog.main.body) (boot_heap w.params) (hfin w.params) && namesBound Challenge.rw_slowroad_k63_wishes_of_a_hand.row.prog (hfin w.params) && gensDone (⟨hfin w.params, Array.mk [], Drawn.mk 0 0 0 0, 1361, os⟩ : Shared) && laidKept (boot_heap w.params) (hfin w.params)) = true := by kernel_rfl
theorem hd_l2 (w : World) (os : OsState) : openSeen hdView [] (importedModules Challenge.rw_slowroad_k63_wishes_of_a_hand.row.prog.main.body) (fun s => xlAt hdView [] s && recOk Challenge.rw_slowroad_k63_wishes_of_a_hand.row.records s) true (⟨hfin w.params, Array.mk [], Drawn.mk 0 0 0 0, 1361, os⟩ : Shared) = openGood hdView [] := by kernel_rfl
theorem hd_l3 (w : World) (os : OsState) : (kHook hdK hdAdr hd_he).obs (⟨hfin w.params, Array.mk [], Drawn.mk 0 0 0 0, 1361, os⟩ : Shared) = (kHook hdK hdAdr hd_he).val w := by kernel_rfl
theorem hd_hl : ∀ w : World, Option.map (fun s => (openSeen hdView [] (importedModules Challenge.rw_slowroad_k63_wishes_of_a_hand.row.prog.main.body) (fun s => xlAt hdView [] s && recOk Challenge.rw_slowroad_k63_wishes_of_a_hand.row.records s) true s, (kHook hdK hdAdr hd_he).obs s)) (openEnds treeTable Challenge.rw_slowroad_k63_wishes_of_a_hand.row.prog w 13296) = some (openGood hdView [], (kHook hdK hdAdr hd_he).val w) := LeftO.of_pieces (H₀ := boot_heap) (H₁ := hfin) hd_open hd_size hd_run (by decide) (fun w => funext fun os => looks_pair (hd_l1 w os) (looks_pair (hd_l2 w os) (hd_l3 w os)))
end
noncomputable def sp_is_from  : Sp := fun vs H Q E => match vs with
 | [.int v, .int l, .int h] => Q (.bl (fromB v l h)) H
 | _ => False
theorem fromB_iff {v l h : Int} : fromB v l h = true ↔ l ≤ v ∧ v ≤ h := by
 unfold fromB
 rw [Bool.and_eq_true, decide_eq_true_eq, decide_eq_true_eq]
theorem fromB_t {v l h : Int} (c : l ≤ v ∧ v ≤ h) : fromB v l h = true := fromB_iff.mpr c
theorem fromB_f {v l h : Int} (c : ¬ (l ≤ v ∧ v ≤ h)) : fromB v l h = false := by
 cases e : fromB v l h
 ·rfl
 ·exact absurd (fromB_iff.mp e) c
noncomputable def needF (r l : Int) : Int := if r = 1 then 2 + l / 2 else 2 * r + l - 1
noncomputable def leastF (o t g : Int) : Int := if needF o g < needF t g then needF t g else needF o g
noncomputable def good (r o t g f l : Int) : Prop := (2 ≤ r ∧ r ≤ 64) ∧ ((1 ≤ o ∧ o ≤ 16) ∧ (1 ≤ t ∧ t ≤ 16)) ∧ (1 ≤ g ∧ g ≤ 32) ∧ (2 ≤ l ∧ l ≤ 64) ∧ (2 ≤ f ∧ f ≤ l)
noncomputable def sp_need  : Sp := fun vs H Q E => match vs with
 | [.int r, .int l] => Q (.int (needF r l)) H
 | _ => False
noncomputable def sp_are_rooms  : Sp := fun vs H Q E => match vs with
 | [.ref p] => ∃ o t, H p = some (.tup [.int o, .int t]) ∧ ∀ H', Same H H' → Q (.bl (decide ((1 ≤ o ∧ o ≤ 16) ∧ (1 ≤ t ∧ t ≤ 16)))) H'
 | _ => False
noncomputable def sp_are_waits  : Sp := fun vs H Q E => match vs with
 | [.int f, .int l] => Q (.bl (decide ((2 ≤ l ∧ l ≤ 64) ∧ 2 ≤ f ∧ f ≤ l))) H
 | _ => False
noncomputable def sp_NotWide___init__  (C_NotWide : Addr) : Sp := fun vs H Q E => match vs with
 | [.ref e, .int l] => H e = some (.ext (exN e C_NotWide none)) ∧ ∀ d, H d = none → Q .non (upd (upd H d (.xd [("least", .int l)])) e (.ext (exN e C_NotWide (some d))))
 | _ => False
noncomputable def sp_Terms___init__  (C_Terms : Addr) (C_BadTerms : Addr) (C_NotWide : Addr) : Sp := fun vs H Q E => match vs with
 | [.ref x, .int r, .ref p, .int g, .int f, .int l] => ∃ o t dx, H p = some (.tup [.int o, .int t]) ∧ H x = some (.ins C_Terms dx []) ∧ (¬ good r o t g f l → ∀ H', Same H H' → E (.ref C_BadTerms) none H') ∧ (good r o t g f l → r < leastF o t g → ∀ H' d, Same H H' → H' d = some (.xd [("least", .int (leastF o t g))]) → E (.ref C_NotWide) (some d) H') ∧ (good r o t g f l → ¬ r < leastF o t g → ∀ H', But x H H' → H' x = some (.ins C_Terms dx (fl_Terms (.int r) (.ref p) (.int g) (.int f) (.int l))) → Q .non H')
 | _ => False
noncomputable def sp_Meter___init__  (C_Meter : Addr) : Sp := fun vs H Q E => match vs with
 | [.ref p, .int m] => ∃ dx, H p = some (.ins C_Meter dx []) ∧ Q .non (upd H p (.ins C_Meter dx (fl_Meter (.int m) (.int (MeterM.mn 2 m)) (.int m) (.int 0))))
 | _ => False
noncomputable def sp_Meter_know_one  (C_Meter : Addr) : Sp := fun vs H Q E => match vs with
 | [.ref p] => ∃ dx m w k c, H p = some (.ins C_Meter dx (fl_Meter (.int m) (.int w) (.int k) (.int c))) ∧ Q .non (upd H p (.ins C_Meter dx (fl_Meter (.int m) (.int (MeterM.k1 m k (w, c)).1) (.int k) (.int (MeterM.k1 m k (w, c)).2))))
 | _ => False
noncomputable def sp_Meter_known  (C_Meter : Addr) : Sp := fun vs H Q E => match vs with
 | [.ref p, .int n] => (0 ≤ n ∧ n < 1000) ∧ ∃ dx m w k c, H p = some (.ins C_Meter dx (fl_Meter (.int m) (.int w) (.int k) (.int c))) ∧ Q .non (upd H p (.ins C_Meter dx (fl_Meter (.int m) (.int (MeterM.kn m k n.toNat (w, c)).1) (.int k) (.int (MeterM.kn m k n.toNat (w, c)).2))))
 | _ => False
noncomputable def sp_Meter_half  (C_Meter : Addr) : Sp := fun vs H Q E => match vs with
 | [.ref p] => ∃ dx m w k c, H p = some (.ins C_Meter dx (fl_Meter (.int m) (.int w) (.int k) (.int c))) ∧ Q (.int (MeterM.hf w)) H
 | _ => False
noncomputable def sp_Meter_ran_out  (C_Meter : Addr) : Sp := fun vs H Q E => match vs with
 | [.ref p] => ∃ dx m w k c, H p = some (.ins C_Meter dx (fl_Meter (.int m) (.int w) (.int k) (.int c))) ∧ Q .non (upd H p (.ins C_Meter dx (fl_Meter (.int m) (.int 1) (.int (MeterM.hf w)) (.int 0))))
 | _ => False
noncomputable def sp_Meter_hurried  (C_Meter : Addr) : Sp := fun vs H Q E => match vs with
 | [.ref p] => ∃ dx m w k c, H p = some (.ins C_Meter dx (fl_Meter (.int m) (.int w) (.int k) (.int c))) ∧ Q .non (upd H p (.ins C_Meter dx (fl_Meter (.int m) (.int (MeterM.hf w)) (.int (MeterM.hf w)) (.int 0))))
 | _ => False
structure Wb (a A b B m : Int) : Prop where
 m0 : 0 ≤ m
 m1 : m ≤ 1000000
 a0 : 0 ≤ a
 A0 : 0 < A
 b0 : 0 ≤ b
 B0 : 0 < B
 a1 : Bd 1000 a
 A1 : Bd 1000 A
 b1 : Bd 1000 b
 B1 : Bd 1000 B
noncomputable def WayAt (C_Ways : Addr) (H : Hp) (p dx : Addr) (L w a A b B : Int) : Prop := ∃ ps pp, H p = some (.ins C_Ways dx (fl_Ways (.int L) (.ref ps) (.ref pp) (.int w))) ∧ H ps = some (.tup [.int a, .int A]) ∧ H pp = some (.tup [.int b, .int B])
noncomputable abbrev nsp := WaysM.nsp
noncomputable abbrev nsm := WaysM.nsm
noncomputable def lw (a A b B : Int) : Int := -(-(a * B + 4 * b * A) / (A * B))
noncomputable def wt (L a A b B : Int) : Int := if 2 < (if lw a A b B < L then lw a A b B else L) then (if lw a A b B < L then lw a A b B else L) else 2
noncomputable def sp_lowest  : Sp := fun vs H Q E => match vs with
 | [.int t, .int b] => (0 ≤ t ∧ 0 < b ∧ Bd 8000 b) ∧ ∀ p, H p = none → Q (.ref p) (upd H p (.tup [.int (WaysM.low t b).1, .int (WaysM.low t b).2]))
 | _ => False
noncomputable def sp_Ways___init__  (C_Ways : Addr) : Sp := fun vs H Q E => match vs with
 | [.ref p, .int f, .int l] => ∃ dx, H p = some (.ins C_Ways dx []) ∧ Q .non (upd H p (.ins C_Ways dx (fl_Ways (.int l) .non .non (.int f))))
 | _ => False
noncomputable def sp_Ways_next_spread  (C_Ways : Addr) : Sp := fun vs H Q E => match vs with
 | [.ref p, .int m] => ∃ dx L w a A b B, Wb a A b B m ∧ WayAt C_Ways H p dx L w a A b B ∧ ∀ q, H q = none → Q (.ref q) (upd H q (.tup [.int (nsp a A b B m).1, .int (nsp a A b B m).2]))
 | _ => False
noncomputable def sp_Ways_next_smooth  (C_Ways : Addr) : Sp := fun vs H Q E => match vs with
 | [.ref p, .int m] => ∃ dx L s ps w a A, (0 ≤ m ∧ m ≤ 1000000 ∧ 0 ≤ a ∧ 0 < A ∧ Bd 1000 A) ∧ H p = some (.ins C_Ways dx (fl_Ways (.int L) (.ref ps) s (.int w))) ∧ H ps = some (.tup [.int a, .int A]) ∧ ∀ q, H q = none → Q (.ref q) (upd H q (.tup [.int (nsm a A m).1, .int (nsm a A m).2]))
 | _ => False
noncomputable def sp_Ways_least_wait  (C_Ways : Addr) : Sp := fun vs H Q E => match vs with
 | [.ref p] => ∃ dx L w a A b B, (0 < A ∧ 0 < B ∧ Bd 2000 a ∧ Bd 2000 A ∧ Bd 3000 b ∧ Bd 3000 B) ∧ WayAt C_Ways H p dx L w a A b B ∧ Q (.int (lw a A b B)) H
 | _ => False
noncomputable def sp_Ways_measured  (C_Ways : Addr) : Sp := fun vs H Q E => match vs with
 | [.ref p, .int m] => (0 ≤ m ∧ m ≤ 1000000) ∧ ((∃ dx L w, H p = some (.ins C_Ways dx (fl_Ways (.int L) .non .non (.int w))) ∧ ∀ H', But p H H' → WayAt C_Ways H' p dx L (wt L m 1 (WaysM.low m 2).1 (WaysM.low m 2).2) m 1 (WaysM.low m 2).1 (WaysM.low m 2).2 → Q .non H') ∨ (∃ dx L w a A b B, Wb a A b B m ∧ WayAt C_Ways H p dx L w a A b B ∧ ∀ H', But p H H' → WayAt C_Ways H' p dx L (wt L (nsm a A m).1 (nsm a A m).2 (nsp a A b B m).1 (nsp a A b B m).2) (nsm a A m).1 (nsm a A m).2 (nsp a A b B m).1 (nsp a A b B m).2 → Q .non H'))
 | _ => False
noncomputable def sp_Ways_ran_out  (C_Ways : Addr) : Sp := fun vs H Q E => match vs with
 | [.ref p] => ∃ dx L s sp w, H p = some (.ins C_Ways dx (fl_Ways (.int L) s sp (.int w))) ∧ Q .non (upd H p (.ins C_Ways dx (fl_Ways (.int L) s sp (.int (if L < 2 * w then L else 2 * w)))))
 | _ => False
noncomputable abbrev Wg := Option (Int × Int × Int × Int)
noncomputable def WS (C : Addr) (H : Hp) (p dx : Addr) (L w : Int) (g : Wg) (k : Nat) : Prop := 2 ≤ L ∧ (2 ≤ w ∧ w ≤ L) ∧ ((k = 0 ∧ g = none ∧ H p = some (.ins C dx (fl_Ways (V.int L) V.non V.non (V.int w)))) ∨ ∃ n P S D a A b B, g = some (a, A, b, B) ∧ n + 1 = k ∧ WaysM.St n P S D a A b B ∧ WayAt C H p dx L w a A b B)
noncomputable def mgs (g : Wg) (m : Int) : Wg := match g with
 | none => some (m, 1, (WaysM.low m 2).1, (WaysM.low m 2).2)
 | some (a, A, b, B) => some ((nsm a A m).1, (nsm a A m).2, (nsp a A b B m).1, (nsp a A b B m).2)
noncomputable def mws (L : Int) (g : Wg) : Int := match g with
 | none => 2
 | some (a, A, b, B) => wt L a A b B
theorem WS.ins {C p dx : Addr} {H : Hp} {L w : Int} {g : Wg} {k : Nat} (h : WS C H p dx L w g k) : ∃ s sp, H p = some (.ins C dx (fl_Ways (V.int L) s sp (V.int w))) := by
 obtain ⟨_, _, ⟨_, _, hi⟩ | ⟨n, P, S, D, a, A, b, B, _, _, _, ⟨ps, pp, g1, _⟩⟩⟩ := h
 ·exact ⟨_, _, hi⟩
 ·exact ⟨_, _, g1⟩
theorem WS.keep {C p dx : Addr} {H H' : Hp} {L w : Int} {g : Wg} {k : Nat} (h : WS C H p dx L w g k) (hp : ∀ o, H p = some o → H' p = some o) (ht : ∀ t l, H t = some (.tup l) → H' t = some (.tup l)) : WS C H' p dx L w g k := by
 obtain ⟨h0, h1, ⟨a1, a2, a3⟩ | ⟨n, P, S, D, a, A, b, B, b0, b1, b2, ⟨ps, pp, g1, g2, g3⟩⟩⟩ := h
 ·exact ⟨h0, h1, .inl ⟨a1, a2, hp _ a3⟩⟩
 ·exact ⟨h0, h1, .inr ⟨n, P, S, D, a, A, b, B, b0, b1, b2, ⟨ps, pp, hp _ g1, ht _ _ g2, ht _ _ g3⟩⟩⟩
noncomputable def MS (C : Addr) (H : Hp) (p dx : Addr) (mo wi kn co : Int) : Prop := H p = some (.ins C dx (fl_Meter (.int mo) (.int wi) (.int kn) (.int co))) ∧ MeterM.Inb mo (wi, co)
structure Ad where
 dx : Addr
 pw : Addr
 pm : Addr
 pt : Addr
 pk : Addr
 pf : Addr
 pa : Addr
 dw : Addr
 dm : Addr
structure Sd where
 R : Int
 b : Int
 t : Int
 e : Int
 clk : V
 hur : Bool
 T : List V
 Kn : List (Key × V)
 Fi : List (Key × V)
 Ag : List (Key × V)
 L : Int
 w : Int
 k : Nat
 wi : Int
 g : Wg
 mo : Int
 kn : Int
 co : Int
structure SdAt (CS CW CM : Addr) (H : Hp) (x : Addr) (A : Ad) (z : Sd) : Prop where
 hx : H x = some (.ins CS A.dx (fl_Sender (.int z.R) (.ref A.pw) (.ref A.pm) (.ref A.pt) (.int z.b) (.int z.t) (.int z.e) z.clk (.bl z.hur) (.ref A.pk) (.ref A.pf) (.ref A.pa)))
 ht : H A.pt = some (.lst z.T)
 hk : H A.pk = some (.dK z.Kn)
 hf : H A.pf = some (.dK z.Fi)
 ha : H A.pa = some (.dK z.Ag)
 ws : WS CW H A.pw A.dw z.L z.w z.g z.k
 ms : MS CM H A.pm A.dm z.mo z.wi z.kn z.co
 kf : A.pk ≠ A.pf
 ka : A.pk ≠ A.pa
 fa : A.pf ≠ A.pa
 xw : x ≠ A.pw
 xm : x ≠ A.pm
 wm : A.pw ≠ A.pm
theorem SdAt.same {CS CW CM x : Addr} {H H' : Hp} {A : Ad} {z : Sd} (h : SdAt CS CW CM H x A z) (e : Same H H') : SdAt CS CW CM H' x A z := by
 obtain ⟨e1, hi⟩ := h.ms
 exact ⟨e _ _ h.hx, e _ _ h.ht, e _ _ h.hk, e _ _ h.hf, e _ _ h.ha, h.ws.keep (fun o q => e _ _ q) (fun t l q => e _ _ q), ⟨e _ _ e1, hi⟩, h.kf, h.ka, h.fa, h.xw, h.xm, h.wm⟩
theorem SdAt.row {CS CW CM x q : Addr} {H : Hp} {A : Ad} {z : Sd} {o u : HO} (h : SdAt CS CW CM H x A z) (hq : H q = some o) (T : List V) (Kn Fi : List (Key × V)) (n1 : ∀ C d l, o ≠ .ins C d l) (n2 : ∀ l, o ≠ .tup l)
  (g1 : upd H q u A.pt = some (.lst T)) (g2 : upd H q u A.pk = some (.dK Kn)) (g3 : upd H q u A.pf = some (.dK Fi)) (g4 : q ≠ A.pa) : SdAt CS CW CM (upd H q u) x A { z with T := T, Kn := Kn, Fi := Fi } := by
 obtain ⟨e1, hi⟩ := h.ms
 have ni : ∀ p C d l, H p = some (.ins C d l) → p ≠ q := fun p C d l e c => by rw [c, hq] at e; cases e; exact n1 _ _ _ rfl
 obtain ⟨s, sp, ew⟩ := h.ws.ins
 exact ⟨by rw [upd_ne (ni _ _ _ _ h.hx)]; exact h.hx, g1, g2, g3, by rw [upd_ne g4.symm]; exact h.ha, h.ws.keep (fun o' e => by rw [upd_ne (ni _ _ _ _ ew)]; exact e) (fun t l e => by rw [upd_ne (fun c => by rw [c, hq] at e; cases e; exact n2 _ rfl)]; exact e), ⟨by rw [upd_ne (ni _ _ _ _ e1)]; exact e1, hi⟩, h.kf, h.ka, h.fa, h.xw, h.xm, h.wm⟩
noncomputable def Fr6 (x : Addr) (A : Ad) (H H' : Hp) : Prop := ∀ b u, H b = some u → b ≠ x → b ≠ A.pw → b ≠ A.pm → b ≠ A.pt → b ≠ A.pk → b ≠ A.pf → H' b = some u
theorem free_of {H H' : Hp} (e : Same H H') {p : Addr} (h : H' p = none) : H p = none := by
 cases q : H p with
 | none => rfl
 | some o => rw [e _ _ q] at h; cases h
noncomputable def knw (D : List (Key × V)) (j : Int) : Bool := (valV D (ik j)).isSome
noncomputable def kab (z : Sd) : Nat := ((List.range (z.t - (z.b + 1)).toNat).filter fun j : Nat => knw z.Kn (z.b + 1 + (j : Int))).length
noncomputable def putAll (D : List (Key × V)) (ps : List Int) : List (Key × V) := ps.foldl (fun D n => putK D (ik n) (.bl true)) D
noncomputable def frs (D : List (Key × V)) (ps : List Int) : List Int := ps.filter fun n => !knw D n
noncomputable def irg (b : Int) (n : Nat) : List Int := (List.range n).map fun j : Nat => b + (j : Int)
noncomputable def hld (z : Sd) (hs : List Int) : List Int := (hs.filter fun h => decide (z.b + h < z.t)).map fun h => z.b + h
noncomputable def Fr7 (x : Addr) (A : Ad) (H H' : Hp) : Prop := ∀ b u, H b = some u → b ≠ x → b ≠ A.pw → b ≠ A.pm → b ≠ A.pt → b ≠ A.pk → b ≠ A.pf → b ≠ A.pa → H' b = some u
noncomputable def Clk (c : V) (n : Int) (r : Bool) : Prop := (c = .non ∧ r = false) ∨ ∃ i, c = .int i ∧ r = decide (i ≤ n)
structure Bz (z : Sd) : Prop where
 b0 : 0 ≤ z.b
 bt : z.b ≤ z.t
 t1 : z.t ≤ 900
noncomputable def sp_Sender_put  (C_Sender : Addr) (C_Ways : Addr) (C_Meter : Addr) : Sp := fun vs H Q E => match vs with
 | [.ref x, th] => ∃ A z, SdAt C_Sender C_Ways C_Meter H x A z ∧ z.T.length < 1000 ∧ ∀ H', But A.pt H H' → SdAt C_Sender C_Ways C_Meter H' x A { z with T := z.T ++ [th] } → Q .non H'
 | _ => False
noncomputable def sp_Sender_many  (C_Sender : Addr) (C_Ways : Addr) (C_Meter : Addr) : Sp := fun vs H Q E => match vs with
 | [.ref x] => ∃ A z, SdAt C_Sender C_Ways C_Meter H x A z ∧ Q (.int z.T.length) H
 | _ => False
noncomputable def sp_Sender_thing  (C_Sender : Addr) (C_Ways : Addr) (C_Meter : Addr) : Sp := fun vs H Q E => match vs with
 | [.ref x, .int p] => ∃ A z v, SdAt C_Sender C_Ways C_Meter H x A z ∧ atI z.T p = some v ∧ Q v H
 | _ => False
noncomputable def sp_Sender_known_above_base  (C_Sender : Addr) (C_Ways : Addr) (C_Meter : Addr) : Sp := fun vs H Q E => match vs with
 | [.ref x] => ∃ A z, SdAt C_Sender C_Ways C_Meter H x A z ∧ Bz z ∧ ∀ H', Same H H' → Q (.int (kab z)) H'
 | _ => False
noncomputable def sp_Sender_under_way  (C_Sender : Addr) (C_Ways : Addr) (C_Meter : Addr) : Sp := fun vs H Q E => match vs with
 | [.ref x] => ∃ A z, SdAt C_Sender C_Ways C_Meter H x A z ∧ Bz z ∧ ∀ H', Same H H' → Q (.int (z.t - z.b - kab z)) H'
 | _ => False
noncomputable def sp_Sender_thing_waits  (C_Sender : Addr) (C_Ways : Addr) (C_Meter : Addr) : Sp := fun vs H Q E => match vs with
 | [.ref x] => ∃ A z, SdAt C_Sender C_Ways C_Meter H x A z ∧ Q (.bl (decide (z.t < z.T.length))) H
 | _ => False
noncomputable def sp_Sender_hurry_is_due  (C_Sender : Addr) (C_Ways : Addr) (C_Meter : Addr) : Sp := fun vs H Q E => match vs with
 | [.ref x] => ∃ A z, SdAt C_Sender C_Ways C_Meter H x A z ∧ Bz z ∧ ∀ H', Same H H' → Q (.bl (decide (z.b < z.t) && !z.hur && decide ((2 : Int) ≤ kab z))) H'
 | _ => False
noncomputable def sp_Sender_new_may_go  (C_Sender : Addr) (C_Ways : Addr) (C_Meter : Addr) : Sp := fun vs H Q E => match vs with
 | [.ref x] => ∃ A z, SdAt C_Sender C_Ways C_Meter H x A z ∧ Bz z ∧ ∀ H', Same H H' → Q (.bl (decide (z.t < z.T.length) && decide (z.t < z.e) && decide (z.t - z.b - kab z < z.wi))) H'
 | _ => False
noncomputable def sp_Sender_newly_known  (C_Sender : Addr) (C_Ways : Addr) (C_Meter : Addr) : Sp := fun vs H Q E => match vs with
 | [.ref x, .ref l] => ∃ A z, ∃ ps : List Int, SdAt C_Sender C_Ways C_Meter H x A z ∧ H l = some (.lst (ps.map V.int)) ∧ z.Kn.length < 1000000 ∧ ps.length ≤ 1000 ∧ ∀ p H', H p = none → Fr6 x A H H' → SdAt C_Sender C_Ways C_Meter H' x A { z with Kn := putAll z.Kn (frs z.Kn ps) } → H' p = some (.lst ((frs z.Kn ps).map V.int)) → Q (.ref p) H'
 | _ => False
noncomputable def sp_Sender_set_clock  (C_Sender : Addr) (C_Ways : Addr) (C_Meter : Addr) : Sp := fun vs H Q E => match vs with
 | [.ref x, .int n] => ∃ A z, SdAt C_Sender C_Ways C_Meter H x A z ∧ ∀ H', But x H H' → SdAt C_Sender C_Ways C_Meter H' x A { z with clk := .int (n + z.w) } → Q .non H'
 | _ => False
noncomputable def sp_Sender_grow_base  (C_Sender : Addr) (C_Ways : Addr) (C_Meter : Addr) : Sp := fun vs H Q E => match vs with
 | [.ref x, .int st] => ∃ A z, SdAt C_Sender C_Ways C_Meter H x A z ∧ Bz z ∧ (0 ≤ st ∧ st ≤ z.t - z.b) ∧ z.Kn.length < 1000000 ∧ ∀ fs p H', fs = frs z.Kn (irg z.b st.toNat) → H p = none → Fr6 x A H H' → SdAt C_Sender C_Ways C_Meter H' x A { z with b := z.b + st, Kn := putAll z.Kn fs } → H' p = some (.lst (fs.map V.int)) → Q (.ref p) H'
 | _ => False
noncomputable def sp_Sender_note_held  (C_Sender : Addr) (C_Ways : Addr) (C_Meter : Addr) : Sp := fun vs H Q E => match vs with
 | [.ref x, .ref t] => ∃ A z, ∃ hs : List Int, SdAt C_Sender C_Ways C_Meter H x A z ∧ H t = some (.tup (hs.map V.int)) ∧ hs.length ≤ 1000 ∧ z.Kn.length < 1000000 ∧ ∀ fs p H', fs = frs z.Kn (hld z hs) → H p = none → Fr6 x A H H' → SdAt C_Sender C_Ways C_Meter H' x A { z with Kn := putAll z.Kn fs } → H' p = some (.lst (fs.map V.int)) → Q (.ref p) H'
 | _ => False
noncomputable def sp_Sender_go_again  (C_Sender : Addr) (C_Ways : Addr) (C_Meter : Addr) : Sp := fun vs H Q E => match vs with
 | [.ref x, .int n] => ∃ A z, SdAt C_Sender C_Ways C_Meter H x A z ∧ z.Ag.length < 1000000 ∧ ∀ p H', H p = none → Fr7 x A H H' → SdAt C_Sender C_Ways C_Meter H' x A { z with clk := .int (n + z.w), hur := true, Ag := putK z.Ag (ik z.b) (.bl true) } → H' p = some (.tup [.str "again", .int z.b]) → Q (.ref p) H'
 | _ => False
noncomputable def sp_Sender_clock_is_out  (C_Sender : Addr) (C_Ways : Addr) (C_Meter : Addr) : Sp := fun vs H Q E => match vs with
 | [.ref x, .int n] => ∃ A z r, SdAt C_Sender C_Ways C_Meter H x A z ∧ Clk z.clk n r ∧ Q (.bl r) H
 | _ => False
noncomputable def sp_Sender_go_new  (C_Sender : Addr) (C_Ways : Addr) (C_Meter : Addr) : Sp := fun vs H Q E => match vs with
 | [.ref x, .int n] => ∃ A z, SdAt C_Sender C_Ways C_Meter H x A z ∧ z.Fi.length < 1000000 ∧ ∀ p H', H p = none → Fr6 x A H H' → SdAt C_Sender C_Ways C_Meter H' x A { z with clk := if z.b = z.t then .int (n + z.w) else z.clk, t := z.t + 1, Fi := putK z.Fi (ik z.t) (.int n) } → H' p = some (.tup [.str "new", .int z.t]) → Q (.ref p) H'
 | _ => False
noncomputable def w2 (z : Sd) : Int := if z.L < 2 * z.w then z.L else 2 * z.w
noncomputable def outC (c : V) (n : Int) : Bool := match c with
 | .int i => decide (i ≤ n)
 | _ => false
noncomputable def hryD (z : Sd) : Bool := decide (z.b < z.t) && !z.hur && decide ((2 : Int) ≤ kab z)
noncomputable def newMay (z : Sd) : Bool := decide (z.t < z.T.length) && decide (z.t < z.e) && decide (z.t - z.b - kab z < z.wi)
noncomputable def lateZ (z : Sd) (n : Int) : Sd := { z with w := w2 z, wi := 1, kn := MeterM.hf z.wi, co := 0, clk := .int (n + w2 z), hur := true, Ag := putK z.Ag (ik z.b) (.bl true) }
noncomputable def hryZ (z : Sd) (n : Int) : Sd := { z with wi := MeterM.hf z.wi, kn := MeterM.hf z.wi, co := 0, clk := .int (n + z.w), hur := true, Ag := putK z.Ag (ik z.b) (.bl true) }
noncomputable def newZ (z : Sd) (n : Int) : Sd := { z with clk := if z.b = z.t then .int (n + z.w) else z.clk, t := z.t + 1, Fi := putK z.Fi (ik z.t) (.int n) }
noncomputable def askZ (z : Sd) (n : Int) : Sd := { z with w := w2 z, clk := .int (n + w2 z) }
noncomputable def setZ (z : Sd) (n : Int) : Sd := { z with clk := .int (n + z.w) }
noncomputable def AsX (z z' : Sd) (n : Int) (v : V) (H H' : Hp) : Prop := (z.clk = .non ∧ z' = setZ z n ∧ v = .non) ∨ (∃ i, z.clk = .int i ∧ n < i ∧ z' = z ∧ v = .non) ∨ (∃ i, z.clk = .int i ∧ i ≤ n ∧ z' = askZ z n ∧ ∃ p, v = .ref p ∧ H p = none ∧ H' p = some (.tup [.str "ask", .non]))
noncomputable def GoX (z z' : Sd) (n : Int) (v : V) (H H' : Hp) : Prop :=
 (z.b < z.t ∧ outC z.clk n = true ∧ z' = lateZ z n ∧ ∃ p, v = .ref p ∧ H p = none ∧ H' p = some (.tup [.str "again", .int z.b])) ∨
 ((z.b < z.t → outC z.clk n = false) ∧ ((hryD z = true ∧ z' = hryZ z n ∧ ∃ p, v = .ref p ∧ H p = none ∧ H' p = some (.tup [.str "again", .int z.b])) ∨
  (hryD z = false ∧ ((newMay z = true ∧ z' = newZ z n ∧ ∃ p, v = .ref p ∧ H p = none ∧ H' p = some (.tup [.str "new", .int z.t])) ∨
   (newMay z = false ∧ ((z.t < z.T.length ∧ z.b = z.t ∧ AsX z z' n v H H') ∨ (¬ (z.t < z.T.length ∧ z.b = z.t) ∧ z' = z ∧ v = .non)))))))
noncomputable def sp_Sender_ask_for_room  (C_Sender : Addr) (C_Ways : Addr) (C_Meter : Addr) : Sp := fun vs H Q E => match vs with
 | [.ref x, .int n] => ∃ A z, SdAt C_Sender C_Ways C_Meter H x A z ∧ (z.clk = .non ∨ ∃ i, z.clk = .int i) ∧ ∀ v H' z', Fr7 x A H H' → SdAt C_Sender C_Ways C_Meter H' x A z' → AsX z z' n v H H' → Q v H'
 | _ => False
noncomputable def sp_Sender_go  (C_Sender : Addr) (C_Ways : Addr) (C_Meter : Addr) : Sp := fun vs H Q E => match vs with
 | [.ref x, .int n] => ∃ A z, SdAt C_Sender C_Ways C_Meter H x A z ∧ Bz z ∧ (z.clk = .non ∨ ∃ i, z.clk = .int i) ∧ z.Ag.length < 1000000 ∧ z.Fi.length < 1000000 ∧ ∀ v H' z', Fr7 x A H H' → SdAt C_Sender C_Ways C_Meter H' x A z' → GoX z z' n v H H' → Q v H'
 | _ => False
noncomputable def cnt (D : List (Key × V)) (t : Nat) : Nat := ((List.range t).filter fun j : Nat => knw D (j : Int)).length
noncomputable def Tq (z : Sd) (tn : Int) : Prop := ∀ j : Int, 0 ≤ j → j < z.t → ∃ f, valV z.Fi (ik j) = some (.int f) ∧ 0 ≤ tn - f ∧ tn - f ≤ 1000000
noncomputable def far' (z : Sd) (nu : Int) : Int := (nu - z.b) % z.R
noncomputable def f1' (z : Sd) (nu : Int) : List Int := frs z.Kn (irg z.b (far' z nu).toNat)
noncomputable def z1' (z : Sd) (nu : Int) : Sd := { z with b := z.b + far' z nu, Kn := putAll z.Kn (f1' z nu) }
noncomputable def f2' (z : Sd) (nu : Int) (hs : List Int) : List Int := frs (z1' z nu).Kn (hld (z1' z nu) hs)
noncomputable def fsh (z : Sd) (nu : Int) (hs : List Int) : List Int := f1' z nu ++ f2' z nu hs
noncomputable def fstT (z : Sd) (p : Int) : Int := match valV z.Fi (ik p) with
 | some (.int f) => f
 | _ => 0
noncomputable abbrev Ws := Int × Wg × Nat
noncomputable def ms1 (z : Sd) (tn : Int) (s : Ws) (p : Int) : Ws := if knw z.Ag p then s else (mws z.L (mgs s.2.1 (tn - fstT z p)), mgs s.2.1 (tn - fstT z p), s.2.2 + 1)
noncomputable def mall (z : Sd) (tn : Int) (fs : List Int) : Ws := fs.foldl (ms1 z tn) (z.w, z.g, z.k)
noncomputable def hrd (z : Sd) (nu rm : Int) (hs : List Int) (tn : Int) : Sd :=
 ⟨z.R, z.b + far' z nu, z.t, if z.e < z.b + far' z nu + rm then z.b + far' z nu + rm else z.e, if 0 < far' z nu then (if z.b + far' z nu < z.t then .int (tn + (mall z tn (fsh z nu hs)).1) else .non) else z.clk, if 0 < far' z nu then false else z.hur, z.T, putAll (z1' z nu).Kn (f2' z nu hs), z.Fi, z.Ag, z.L, (mall z tn (fsh z nu hs)).1, (mall z tn (fsh z nu hs)).2.2, (MeterM.kn z.mo z.kn (fsh z nu hs).length (z.wi, z.co)).1, (mall z tn (fsh z nu hs)).2.1, z.mo, z.kn, (MeterM.kn z.mo z.kn (fsh z nu hs).length (z.wi, z.co)).2⟩
noncomputable def sp_Sender_heard  (C_Sender : Addr) (C_Ways : Addr) (C_Meter : Addr) : Sp := fun vs H Q E => match vs with
 | [.ref x, .int nu, .int rm, .ref hd, .int tn] => ∃ A z, ∃ hs : List Int, SdAt C_Sender C_Ways C_Meter H x A z ∧ Bz z ∧ 0 < z.R ∧ H hd = some (.tup (hs.map V.int)) ∧ hs.length ≤ 100 ∧ hs.Nodup ∧ (∀ k ∈ hs, 0 ≤ k) ∧ Tq z tn ∧ z.Kn.length < 900000 ∧ z.t ≤ 390 ∧ z.k ≤ cnt z.Kn z.t.toNat ∧ ∀ p H', H p = none → Fr7 x A H H' → ((z.t - z.b < far' z nu ∧ Same H H' ∧ H' p = some (.lst [])) ∨ (far' z nu ≤ z.t - z.b ∧ SdAt C_Sender C_Ways C_Meter H' x A (hrd z nu rm hs tn) ∧ H' p = some (.lst ((fsh z nu hs).map V.int)))) → Q (.ref p) H'
 | _ => False
theorem free_but {x p : Addr} {H H' : Hp} (b : But x H H') (n : x ≠ p) (h : H' p = none) : H p = none := by
 cases q : H p with
 | none => rfl
 | some o => rw [b _ _ q n.symm] at h; cases h
noncomputable def sp_Sender___init__  (C_Sender : Addr) (C_Ways : Addr) (C_Meter : Addr) : Sp := fun vs H Q E => match vs with
 | [.ref x, .int r, .int f, .int l, .int m] => (2 ≤ f ∧ f ≤ l ∧ 1 ≤ m) ∧ ∃ dx, H x = some (.ins C_Sender dx []) ∧ ∀ A H', But x H H' → (∀ b, b ∈ [A.pw, A.pm, A.pt, A.pk, A.pf, A.pa] → H b = none) → SdAt C_Sender C_Ways C_Meter H' x A ⟨r, 0, 0, 1, .non, false, [], [], [], [], l, f, 0, MeterM.mn 2 m, none, m, m, 0⟩ → Q .non H'
 | _ => False
structure Tk where
 R : Int
 M : Int
 g : Int
 o : Int
 D : List (Key × V)
structure TkAt (C : Addr) (H : Hp) (x dx pk : Addr) (z : Tk) : Prop where
 hx : H x = some (.ins C dx (fl_Taker (.int z.R) (.int z.M) (.int z.g) (.int z.o) (.ref pk)))
 hD : H pk = some (.dK z.D)
theorem TkAt.n1 {C x dx pk : Addr} {H : Hp} {z : Tk} (h : TkAt C H x dx pk z) : pk ≠ x := ne_of h.hD h.hx (by simp)
theorem TkAt.same {C x dx pk : Addr} {H H' : Hp} {z : Tk} (h : TkAt C H x dx pk z) (e : Same H H') : TkAt C H' x dx pk z := ⟨e _ _ h.hx, e _ _ h.hD⟩
noncomputable def Fr2 (x pk : Addr) (H H' : Hp) : Prop := ∀ b u, H b = some u → b ≠ x → b ≠ pk → H' b = some u
noncomputable def vals (D : List (Key × V)) (g : Int) (n : Nat) : List V := (List.range n).map fun j : Nat => (valV D (ik (g + (j : Int)))).getD .non
noncomputable def Run (D : List (Key × V)) (g : Int) (n : Nat) : Prop := (∀ j : Nat, j < n → (valV D (ik (g + j))).isSome = true) ∧ valV D (ik (g + n)) = none
noncomputable def heldL (D : List (Key × V)) (g : Int) (n : Nat) : List Int := ((List.range n).filter fun j : Nat => (valV D (ik (g + (1 + (j : Int))))).isSome).map (fun j : Nat => 1 + (j : Int))
theorem held_eq {D : List (Key × V)} {g : Int} {n : Nat} : List.map (fun v => v) (List.filter (fun v => match v with | V.int i => (valV D (ik (g + i))).isSome | _ => false) (rngV 1 n)) = (heldL D g n).map V.int := by
 unfold rngV heldL
 rw [List.filter_map, List.map_map, List.map_map]
 rfl
noncomputable def sp_ahead  : Sp := fun vs H Q E => match vs with
 | [.int r, .int a, .int b] => 0 < r ∧ Q (.int ((b - a) % r)) H
 | _ => False
noncomputable def sp_Taker___init__  (C_Taker : Addr) : Sp := fun vs H Q E => match vs with
 | [.ref x, .int r, .int m] => ∃ dx, H x = some (.ins C_Taker dx []) ∧ ∀ pk H', H pk = none → But x H H' → TkAt C_Taker H' x dx pk ⟨r, m, 0, 0, []⟩ → Q .non H'
 | _ => False
noncomputable def sp_Taker_room_left  (C_Taker : Addr) : Sp := fun vs H Q E => match vs with
 | [.ref x] => ∃ dx pk z, TkAt C_Taker H x dx pk z ∧ Q (.int (z.o + z.M - z.g)) H
 | _ => False
noncomputable def sp_Taker_stand_in_order  (C_Taker : Addr) : Sp := fun vs H Q E => match vs with
 | [.ref x] => ∃ dx pk z B, TkAt C_Taker H x dx pk z ∧ (∀ i, (valV z.D (ik i)).isSome = true → i < B) ∧ B ≤ z.g + 1000 ∧ ∀ n p H', Run z.D z.g n → H p = none → Fr2 x pk H H' → TkAt C_Taker H' x dx pk { z with g := z.g + n } → H' p = some (.lst (vals z.D z.g n)) → Q (.ref p) H'
 | _ => False
noncomputable def sp_Taker_take  (C_Taker : Addr) : Sp := fun vs H Q E => match vs with
 | [.ref x, .int m, .ref th] => ∃ dx pk z B, TkAt C_Taker H x dx pk z ∧ 0 < z.R ∧ (∀ i, (valV z.D (ik i)).isSome = true → i < B) ∧ B ≤ z.g + 1000 ∧ z.o + z.M ≤ B ∧ z.D.length < 1000 ∧ ((z.o + z.M - z.g ≤ (m - z.g) % z.R ∧ ∀ p l H', Same H H' → H p = none → H l = none → H' p = some (.tup [.non, .ref l]) → H' l = some (.lst []) → Q (.ref p) H') ∨ ((m - z.g) % z.R < z.o + z.M - z.g ∧ ∀ D', D' = (if (valV z.D (ik (z.g + (m - z.g) % z.R))).isSome then z.D else putK z.D (ik (z.g + (m - z.g) % z.R)) (.ref th)) → ∀ n p l H', Run D' z.g n → H p = none → H l = none → p ≠ l → Fr2 x pk H H' → TkAt C_Taker H' x dx pk ⟨z.R, z.M, z.g + n, z.o, D'⟩ → H' l = some (.lst (vals D' z.g n)) → H' p = some (.tup [.int (z.g + (m - z.g) % z.R), .ref l]) → Q (.ref p) H'))
 | _ => False
noncomputable def sp_Taker_answer  (C_Taker : Addr) : Sp := fun vs H Q E => match vs with
 | [.ref x] => ∃ dx pk z, TkAt C_Taker H x dx pk z ∧ 0 < z.R ∧ (0 ≤ z.o + z.M - z.g ∧ z.o + z.M - z.g ≤ 1000) ∧ ∀ p t hs H', Same H H' → hs = heldL z.D z.g (z.o + z.M - z.g - 1).toNat → H p = none → H t = none → H' t = some (.tup (hs.map V.int)) → H' p = some (.tup [.int (z.g % z.R), .int (z.o + z.M - z.g), .ref t]) → Q (.ref p) H'
 | _ => False
noncomputable def sp_Taker_read  (C_Taker : Addr) : Sp := fun vs H Q E => match vs with
 | [.ref x, .int m] => ∃ dx pk z, TkAt C_Taker H x dx pk z ∧ (0 ≤ m ∧ m ≤ 1000 ∧ 0 ≤ z.o ∧ z.o ≤ z.g ∧ z.g ≤ 10000) ∧ (∀ i, z.o ≤ i → i < z.g → (valV z.D (ik i)).isSome = true) ∧ ∀ n p D' H', n = ((if z.g < z.o + m then z.g else z.o + m) - z.o).toNat → H p = none → (∀ i, valV D' (ik i) = if z.o ≤ i ∧ i < z.o + n then none else valV z.D (ik i)) → D'.length ≤ z.D.length → Fr2 x pk H H' → TkAt C_Taker H' x dx pk ⟨z.R, z.M, z.g, z.o + n, D'⟩ → H' p = some (.lst (vals z.D z.o n)) → Q (.ref p) H'
 | _ => False
noncomputable def tbl (C_Shut C_Calling C_Leaving : Addr) : List (Addr × Str) := [(C_Shut, "shut"), (C_Calling, "calling"), (C_Leaving, "leaving")]
noncomputable def StAt (tb : List (Addr × Str)) (H : Hp) (x : Addr) (nm : Str) : Prop := ∃ C dx, H x = some (.ins C dx []) ∧ (C, nm) ∈ tb
noncomputable def dueT : List (Str × Str × Str) := [("shut", "begin", "calling"), ("shut", "begun", "open"), ("calling", "end", "leaving"), ("calling", "begun", "open"), ("open", "end", "leaving"), ("open", "ended", "left"), ("left", "end", "closing"), ("leaving", "ended", "closing"), ("leaving", "answered", "waiting"), ("waiting", "ended", "shut"), ("closing", "answered", "shut")]
noncomputable def nextS (nm w : Str) : Option Str := match dueT.find? (fun t => decide (t.1 = nm) && decide (t.2.1 = w)) with
 | some t => some t.2.2
 | none => if w = "begin" ∨ w = "end" then none else some nm
noncomputable def mayB (nm : Str) : Bool := decide (nm = "calling") || decide (nm = "open") || decide (nm = "left")
theorem dropxl {H H1 : Hp} {e d C : Addr} {o : HO} {l : List (Str × V)} (S : Same H H1) (he : H1 e = none) (hd : upd H1 e o d = none) : Same H (dropH (upd (upd (upd H1 e o) d (.xd l)) e (.ext (exN e C (some d)))) e) ∧ dropH (upd (upd (upd H1 e o) d (.xd l)) e (.ext (exN e C (some d)))) e d = some (.xd l) := by
 have nd : d ≠ e := fun z => by rw [z, upd_same] at hd; cases hd
 refine ⟨fun b u hb => ?_, ?_⟩
 ·have h1 := S b u hb
  have nb : b ≠ e := ne_of_none h1 he
  rw [dropH_ne nb, upd_ne nb, upd_ne (fun z => ?_), upd_ne nb]; exact h1
  rw [z] at h1
  rw [upd_ne nd] at hd
  rw [h1] at hd; cases hd
 ·rw [dropH_ne nd, upd_ne nd, upd_same]
noncomputable def sp_NotNow___init__  (C_NotNow : Addr) : Sp := fun vs H Q E => match vs with
 | [.ref e, v, u] => H e = some (.ext (exN e C_NotNow none)) ∧ ∀ d, H d = none → Q .non (upd (upd H d (.xd [("state", v), ("wish", u)])) e (.ext (exN e C_NotNow (some d))))
 | _ => False
noncomputable def sp_Shut_name  : Sp := fun vs H Q E => match vs with
 | [.ref x] => Q (.str "shut") H
 | _ => False
noncomputable def sp_Calling_name  : Sp := fun vs H Q E => match vs with
 | [.ref x] => Q (.str "calling") H
 | _ => False
noncomputable def sp_Leaving_name  : Sp := fun vs H Q E => match vs with
 | [.ref x] => Q (.str "leaving") H
 | _ => False
noncomputable def sp_Shut_wish_begin  (C_Shut : Addr) (C_Calling : Addr) (C_Leaving : Addr) : Sp := fun vs H Q E => match vs with
 | [.ref x] => ∀ y H', Same H H' → StAt (tbl C_Shut C_Calling C_Leaving) H' y "calling" → Q (.ref y) H'
 | _ => False
noncomputable def sp_Calling_wish_end  (C_Shut : Addr) (C_Calling : Addr) (C_Leaving : Addr) : Sp := fun vs H Q E => match vs with
 | [.ref x] => ∀ y H', Same H H' → StAt (tbl C_Shut C_Calling C_Leaving) H' y "leaving" → Q (.ref y) H'
 | _ => False
noncomputable def sp_State_wish_begin  (C_NotNow : Addr) (C_Shut : Addr) (C_Calling : Addr) (C_Leaving : Addr) : Sp := fun vs H Q E => match vs with
 | [.ref x] => ∃ nm, StAt (tbl C_Shut C_Calling C_Leaving) H x nm ∧ ∀ H' d, Same H H' → H' d = some (.xd [("state", .str nm), ("wish", .str "begin")]) → E (.ref C_NotNow) (some d) H'
 | _ => False
noncomputable def sp_State_wish_end  (C_NotNow : Addr) (C_Shut : Addr) (C_Calling : Addr) (C_Leaving : Addr) : Sp := fun vs H Q E => match vs with
 | [.ref x] => ∃ nm, StAt (tbl C_Shut C_Calling C_Leaving) H x nm ∧ ∀ H' d, Same H H' → H' d = some (.xd [("state", .str nm), ("wish", .str "end")]) → E (.ref C_NotNow) (some d) H'
 | _ => False
noncomputable def sp_Calling_may_put  : Sp := fun vs H Q E => match vs with
 | [.ref x] => Q (.bl true) H
 | _ => False
noncomputable def sp_State_may_put  : Sp := fun vs H Q E => match vs with
 | [.ref x] => Q (.bl false) H
 | _ => False
noncomputable def sp_V_name  (C_Shut : Addr) (C_Calling : Addr) (C_Leaving : Addr) : Sp := fun vs H Q E => match vs with
 | [.ref x] => ∃ nm, StAt (tbl C_Shut C_Calling C_Leaving) H x nm ∧ Q (.str nm) H
 | _ => False
noncomputable def sp_V_may_put  (C_Shut : Addr) (C_Calling : Addr) (C_Leaving : Addr) : Sp := fun vs H Q E => match vs with
 | [.ref x] => ∃ nm, StAt (tbl C_Shut C_Calling C_Leaving) H x nm ∧ Q (.bl (mayB nm)) H
 | _ => False
noncomputable def sp_V_wish_begin  (C_NotNow : Addr) (C_Shut : Addr) (C_Calling : Addr) (C_Leaving : Addr) : Sp := fun vs H Q E => match vs with
 | [.ref x] => ∃ nm, StAt (tbl C_Shut C_Calling C_Leaving) H x nm ∧ (∀ nx, nextS nm "begin" = some nx → ∀ y H', Same H H' → StAt (tbl C_Shut C_Calling C_Leaving) H' y nx → Q (.ref y) H') ∧ (nextS nm "begin" = none → ∀ H' d, Same H H' → H' d = some (.xd [("state", .str nm), ("wish", .str "begin")]) → E (.ref C_NotNow) (some d) H')
 | _ => False
noncomputable def sp_V_wish_end  (C_NotNow : Addr) (C_Shut : Addr) (C_Calling : Addr) (C_Leaving : Addr) : Sp := fun vs H Q E => match vs with
 | [.ref x] => ∃ nm, StAt (tbl C_Shut C_Calling C_Leaving) H x nm ∧ (∀ nx, nextS nm "end" = some nx → ∀ y H', Same H H' → StAt (tbl C_Shut C_Calling C_Leaving) H' y nx → Q (.ref y) H') ∧ (nextS nm "end" = none → ∀ H' d, Same H H' → H' d = some (.xd [("state", .str nm), ("wish", .str "end")]) → E (.ref C_NotNow) (some d) H')
 | _ => False
noncomputable def Kp (S : List Addr) (H H' : Hp) : Prop := ∀ b o, H b = some o → b ∉ S → H' b = some o
theorem Kp.of {S : List Addr} {H H' : Hp} (h : Same H H') : Kp S H H' := fun b o e _ => h b o e
theorem Kp.trans {S : List Addr} {H H1 H2 : Hp} (h : Kp S H H1) (h2 : Kp S H1 H2) : Kp S H H2 := fun b o e n => h2 b o (h b o e n) n
theorem Kp.one {p : Addr} {H : Hp} {o : HO} : Kp [p] H (upd H p o) := fun b u e n => by rw [upd_ne (fun z => n (by rw [z]; exact List.mem_singleton.mpr rfl))]; exact e
theorem nd_ne {l : List Addr} (h : l.Nodup) {i j : Nat} {a b : Addr} (hi : l[i]? = some a) (hj : l[j]? = some b) (n : i ≠ j) : a ≠ b := fun e => by
 subst e
 obtain ⟨h1, e1⟩ := List.getElem?_eq_some_iff.mp hi
 obtain ⟨h2, e2⟩ := List.getElem?_eq_some_iff.mp hj
 rcases Nat.lt_trichotomy i j with q | q | q
 ·exact List.pairwise_iff_getElem.mp h i j h1 h2 q (by rw [e1, e2])
 ·exact n q
 ·exact List.pairwise_iff_getElem.mp h j i h2 h1 q (by rw [e1, e2])
noncomputable def Imm (o : HO) : Prop := (∃ l, o = .tup l) ∨ (∃ C d, o = .ins C d []) ∨ ∃ u v, o = .frz u v
theorem Kp.upd {S : List Addr} {p : Addr} {H : Hp} {o : HO} (m : p ∈ S) : Kp S H (L2.upd H p o) := fun b u e n => by rw [upd_ne (fun z => n (by rw [z]; exact m))]; exact e
theorem Kp.but {S : List Addr} {p : Addr} {H H' : Hp} (h : But p H H') (m : p ∈ S) : Kp S H H' := fun b u e n => h b u e fun z => n (by rw [z]; exact m)
theorem But.fr7 {x : Addr} {A : Ad} {H H' : Hp} (h : But A.pt H H') : Fr7 x A H H' := fun b u e _ _ _ n _ _ _ => h b u e n
theorem imm_lst {l : List V} : ¬ Imm (.lst l) := fun q => by rcases q with ⟨l, q⟩ | ⟨C, d, q⟩ | ⟨u, v, q⟩ <;> cases q
structure HAd where
 dx : Addr
 tk : Addr
 dt : Addr
 kd : Addr
 sd : Addr
 S : Ad
 st : Addr
 pe : Addr
structure Hn where
 side : Int
 R : Int
 tk : Tk
 sd : Sd
 nm : Str
 due : Bool
 ends : List Int
noncomputable def foot (x : Addr) (A : HAd) : List Addr := [x, A.tk, A.kd, A.sd, A.S.pw, A.S.pm, A.S.pt, A.S.pk, A.S.pf, A.S.pa, A.pe]
structure HandAt (CH CT CS CW CM : Addr) (tb : List (Addr × Str)) (H : Hp) (x : Addr) (A : HAd) (z : Hn) : Prop where
 hx : H x = some (.ins CH A.dx (fl_Hand (.int z.side) (.int z.R) (.ref A.tk) (.ref A.sd) (.ref A.st) (.bl z.due) (.ref A.pe)))
 tk : TkAt CT H A.tk A.dt A.kd z.tk
 sd : SdAt CS CW CM H A.sd A.S z.sd
 st : StAt tb H A.st z.nm
 he : H A.pe = some (.lst (z.ends.map V.int))
 nd : (foot x A).Nodup
section
variable {CH CT CS CW CM : Addr} {tb : List (Addr × Str)} {H H' : Hp} {x : Addr} {A : HAd} {z : Hn}
theorem Fr7.kp {x : Addr} {A : Ad} {H H' : Hp} (h : Fr7 x A H H') : Kp [x, A.pw, A.pm, A.pt, A.pk, A.pf, A.pa] H H' := fun b o e n => by
 simp only [List.mem_cons, List.not_mem_nil, or_false, not_or] at n
 exact h b o e n.1 n.2.1 n.2.2.1 n.2.2.2.1 n.2.2.2.2.1 n.2.2.2.2.2.1 n.2.2.2.2.2.2
theorem SdAt.kp {CS CW CM x : Addr} {A : Ad} {z : Sd} {S : List Addr} (h : SdAt CS CW CM H x A z) (k : Kp S H H') (d : ∀ b ∈ [x, A.pw, A.pm, A.pt, A.pk, A.pf, A.pa], b ∉ S) (tp : ∀ t l, H t = some (.tup l) → t ∉ S) : SdAt CS CW CM H' x A z := by
 simp only [List.mem_cons, List.not_mem_nil, or_false] at d
 obtain ⟨e1, hi⟩ := h.ms
 exact ⟨k _ _ h.hx (d _ (by simp)), k _ _ h.ht (d _ (by simp)), k _ _ h.hk (d _ (by simp)), k _ _ h.hf (d _ (by simp)), k _ _ h.ha (d _ (by simp)), h.ws.keep (fun o q => k _ _ q (d _ (by simp))) (fun t l q => k _ _ q (tp t l q)), ⟨k _ _ e1 (d _ (by simp)), hi⟩, h.kf, h.ka, h.fa, h.xw, h.xm, h.wm⟩
theorem HandAt.imm (h : HandAt CH CT CS CW CM tb H x A z) {b : Addr} {o : HO} (e : H b = some o) (i : Imm o) : b ∉ foot x A := by
 obtain ⟨e1, _⟩ := h.sd.ms
 obtain ⟨s, sp, e2⟩ := h.sd.ws.ins
 intro m
 simp only [foot, List.mem_cons, List.not_mem_nil, or_false] at m
 have key : ∀ {p : Addr} {u : HO}, H p = some u → ¬ Imm u → b ≠ p := fun {p u} q n c => by
  rw [c, q] at e; cases e; exact n i
 have ni : ∀ {C d : Addr} {l : List (Str × V)}, l ≠ [] → ¬ Imm (.ins C d l) := fun n q => by
  rcases q with ⟨l, q⟩ | ⟨C, d, q⟩ | ⟨u, v, q⟩
  ·cases q
  ·injection q with _ _ q; exact n q
  ·cases q
 have nl : ∀ {l : List V}, ¬ Imm (.lst l) := fun q => by rcases q with ⟨l, q⟩ | ⟨C, d, q⟩ | ⟨u, v, q⟩ <;> cases q
 have nk : ∀ {l : List (Key × V)}, ¬ Imm (.dK l) := fun q => by rcases q with ⟨l, q⟩ | ⟨C, d, q⟩ | ⟨u, v, q⟩ <;> cases q
 rcases m with m | m | m | m | m | m | m | m | m | m | m
 ·exact key h.hx (ni (by simp [fl_Hand])) m
 ·exact key h.tk.hx (ni (by simp [fl_Taker])) m
 ·exact key h.tk.hD nk m
 ·exact key h.sd.hx (ni (by simp [fl_Sender])) m
 ·exact key e2 (ni (by simp [fl_Ways])) m
 ·exact key e1 (ni (by simp [fl_Meter])) m
 ·exact key h.sd.ht nl m
 ·exact key h.sd.hk nk m
 ·exact key h.sd.hf nk m
 ·exact key h.sd.ha nk m
 ·exact key h.he nl m
theorem HandAt.live (h : HandAt CH CT CS CW CM tb H x A z) {b : Addr} (m : b ∈ foot x A) : ∃ u, H b = some u := by
 obtain ⟨e1, _⟩ := h.sd.ms
 obtain ⟨s, sp, e2⟩ := h.sd.ws.ins
 simp only [foot, List.mem_cons, List.not_mem_nil, or_false] at m
 rcases m with m | m | m | m | m | m | m | m | m | m | m <;> rw [m]
 ·exact ⟨_, h.hx⟩
 ·exact ⟨_, h.tk.hx⟩
 ·exact ⟨_, h.tk.hD⟩
 ·exact ⟨_, h.sd.hx⟩
 ·exact ⟨_, e2⟩
 ·exact ⟨_, e1⟩
 ·exact ⟨_, h.sd.ht⟩
 ·exact ⟨_, h.sd.hk⟩
 ·exact ⟨_, h.sd.hf⟩
 ·exact ⟨_, h.sd.ha⟩
 ·exact ⟨_, h.he⟩
theorem HandAt.fresh (h : HandAt CH CT CS CW CM tb H x A z) {b : Addr} (e : H b = none) : b ∉ foot x A := fun m => by
 obtain ⟨u, q⟩ := h.live m
 rw [e] at q; cases q
theorem HandAt.kp {S : List Addr} (h : HandAt CH CT CS CW CM tb H x A z) (k : Kp S H H') (d : ∀ b ∈ foot x A, b ∉ S) (im : ∀ b o, H b = some o → Imm o → b ∉ S) : HandAt CH CT CS CW CM tb H' x A z := by
 obtain ⟨C, dd, e, hm⟩ := h.st
 simp only [foot, List.mem_cons, List.not_mem_nil, or_false] at d
 exact ⟨k _ _ h.hx (d _ (by simp)), ⟨k _ _ h.tk.hx (d _ (by simp)), k _ _ h.tk.hD (d _ (by simp))⟩, h.sd.kp k (fun b hb => d _ (by simp only [List.mem_cons, List.not_mem_nil, or_false] at hb; rcases hb with q | q | q | q | q | q | q <;> subst q <;> simp)) (fun t l q => im _ _ q (.inl ⟨l, rfl⟩)),
  ⟨C, dd, k _ _ e (im _ _ e (.inr (.inl ⟨C, dd, rfl⟩))), hm⟩, k _ _ h.he (d _ (by simp)), h.nd⟩
theorem HandAt.same (h : HandAt CH CT CS CW CM tb H x A z) (s : Same H H') : HandAt CH CT CS CW CM tb H' x A z := h.kp (S := []) (Kp.of s) (fun _ _ => List.not_mem_nil) (fun _ _ _ _ => List.not_mem_nil)
theorem HandAt.sender {z' : Sd} (h : HandAt CH CT CS CW CM tb H x A z) (f : Fr7 A.sd A.S H H') (s : SdAt CS CW CM H' A.sd A.S z') : HandAt CH CT CS CW CM tb H' x A { z with sd := z' } := by
 have nd := h.nd
 have k := f.kp
 obtain ⟨C, dd, e, hm⟩ := h.st
 have im := h.imm e (.inr (.inl ⟨C, dd, rfl⟩))
 have sub : ∀ {b : Addr}, b ∉ foot x A → b ∉ [A.sd, A.S.pw, A.S.pm, A.S.pt, A.S.pk, A.S.pf, A.S.pa] := fun n m => n (by simp only [foot, List.mem_cons, List.not_mem_nil, or_false] at m ⊢; rcases m with q | q | q | q | q | q | q <;> subst q <;> simp)
 have out : ∀ {i : Nat} {b : Addr}, (foot x A)[i]? = some b → (i < 3 ∨ i = 10) → b ∉ [A.sd, A.S.pw, A.S.pm, A.S.pt, A.S.pk, A.S.pf, A.S.pa] := fun {i b} hi hh m => by
  simp only [List.mem_cons, List.not_mem_nil, or_false] at m
  rcases m with q | q | q | q | q | q | q
  ·exact nd_ne nd hi (j := 3) rfl (by omega) q
  ·exact nd_ne nd hi (j := 4) rfl (by omega) q
  ·exact nd_ne nd hi (j := 5) rfl (by omega) q
  ·exact nd_ne nd hi (j := 6) rfl (by omega) q
  ·exact nd_ne nd hi (j := 7) rfl (by omega) q
  ·exact nd_ne nd hi (j := 8) rfl (by omega) q
  ·exact nd_ne nd hi (j := 9) rfl (by omega) q
 exact ⟨k _ _ h.hx (out (i := 0) rfl (by omega)), ⟨k _ _ h.tk.hx (out (i := 1) rfl (by omega)), k _ _ h.tk.hD (out (i := 2) rfl (by omega))⟩, s, ⟨C, dd, k _ _ e (sub im), hm⟩, k _ _ h.he (out (i := 10) rfl (by omega)), nd⟩
theorem HandAt.own {s : Addr} {nm : Str} (h : HandAt CH CT CS CW CM tb H x A z) (hs : StAt tb H s nm) (due : Bool) : HandAt CH CT CS CW CM tb (upd H x (.ins CH A.dx (fl_Hand (.int z.side) (.int z.R) (.ref A.tk) (.ref A.sd) (.ref s) (.bl due) (.ref A.pe)))) x { A with st := s } { z with nm := nm, due := due } := by
 have nd := h.nd
 have out : ∀ {i : Nat} {b : Addr}, (foot x A)[i]? = some b → i ≠ 0 → b ∉ [x] := fun {i b} hi h1 m => nd_ne nd hi (j := 0) rfl h1 (List.mem_singleton.mp m)
 have sub : ∀ {b : Addr}, b ∉ foot x A → b ∉ [x] := fun n m => n (by rw [List.mem_singleton.mp m]; simp [foot])
 have k : Kp [x] H (upd H x (.ins CH A.dx (fl_Hand (.int z.side) (.int z.R) (.ref A.tk) (.ref A.sd) (.ref s) (.bl due) (.ref A.pe)))) := Kp.one
 obtain ⟨C, dd, e, hm⟩ := hs
 refine ⟨upd_same, ⟨k _ _ h.tk.hx (out (i := 1) rfl (by omega)), k _ _ h.tk.hD (out (i := 2) rfl (by omega))⟩, h.sd.kp k (fun b hb => ?_) (fun t l q => sub (h.imm q (.inl ⟨l, rfl⟩))), ⟨C, dd, k _ _ e (sub (h.imm e (.inr (.inl ⟨C, dd, rfl⟩)))), hm⟩, k _ _ h.he (out (i := 10) rfl (by omega)), nd⟩
 simp only [List.mem_cons, List.not_mem_nil, or_false] at hb
 rcases hb with q | q | q | q | q | q | q <;> subst q
 ·exact out (i := 3) rfl (by omega)
 ·exact out (i := 4) rfl (by omega)
 ·exact out (i := 5) rfl (by omega)
 ·exact out (i := 6) rfl (by omega)
 ·exact out (i := 7) rfl (by omega)
 ·exact out (i := 8) rfl (by omega)
 ·exact out (i := 9) rfl (by omega)
theorem HandAt.ends {l : List Int} (h : HandAt CH CT CS CW CM tb H x A z) : HandAt CH CT CS CW CM tb (upd H A.pe (.lst (l.map V.int))) x A { z with ends := l } := by
 have nd := h.nd
 have out : ∀ {i : Nat} {b : Addr}, (foot x A)[i]? = some b → i ≠ 10 → b ∉ [A.pe] := fun {i b} hi h1 m => nd_ne nd hi (j := 10) rfl h1 (List.mem_singleton.mp m)
 have sub : ∀ {b : Addr}, b ∉ foot x A → b ∉ [A.pe] := fun n m => n (by rw [List.mem_singleton.mp m]; simp [foot])
 have k : Kp [A.pe] H (upd H A.pe (.lst (l.map V.int))) := Kp.one
 obtain ⟨C, dd, e, hm⟩ := h.st
 refine ⟨k _ _ h.hx (out (i := 0) rfl (by omega)), ⟨k _ _ h.tk.hx (out (i := 1) rfl (by omega)), k _ _ h.tk.hD (out (i := 2) rfl (by omega))⟩, h.sd.kp k (fun b hb => ?_) (fun t l q => sub (h.imm q (.inl ⟨l, rfl⟩))), ⟨C, dd, k _ _ e (sub (h.imm e (.inr (.inl ⟨C, dd, rfl⟩)))), hm⟩, upd_same, nd⟩
 simp only [List.mem_cons, List.not_mem_nil, or_false] at hb
 rcases hb with q | q | q | q | q | q | q <;> subst q
 ·exact out (i := 3) rfl (by omega)
 ·exact out (i := 4) rfl (by omega)
 ·exact out (i := 5) rfl (by omega)
 ·exact out (i := 6) rfl (by omega)
 ·exact out (i := 7) rfl (by omega)
 ·exact out (i := 8) rfl (by omega)
 ·exact out (i := 9) rfl (by omega)
end
theorem pr_len {α β : Type} {R : α → β → Prop} : ∀ {xs : List α} {ys : List β}, Paired R xs ys → xs.length = ys.length
 | _, _, .nil => rfl
 | _, _, .cons _ t => by simp [pr_len t]
theorem pr_imp {α β : Type} {R R' : α → β → Prop} : ∀ {xs : List α} {ys : List β}, Paired R xs ys → (∀ x y, R x y → R' x y) → Paired R' xs ys
 | _, _, .nil, _ => .nil
 | _, _, .cons r t, h => .cons (h _ _ r) (pr_imp t h)
theorem pr_app {α β : Type} {R : α → β → Prop} : ∀ {xs : List α} {ys : List β} {xs' : List α} {ys' : List β}, Paired R xs ys → Paired R xs' ys' → Paired R (xs ++ xs') (ys ++ ys')
 | _, _, _, _, .nil, q => q
 | _, _, _, _, .cons r t, q => .cons r (pr_app t q)
theorem pr_mapr {α β γ : Type} {R : α → γ → Prop} {f : β → γ} : ∀ {xs : List α} {ys : List β}, Paired (fun x y => R x (f y)) xs ys → Paired R xs (ys.map f)
 | _, _, .nil => .nil
 | _, _, .cons r t => .cons r (pr_mapr t)
theorem pr_get {α β : Type} {R : α → β → Prop} : ∀ {xs : List α} {ys : List β} {i : Nat} {x : α}, Paired R xs ys → xs[i]? = some x → ∃ y, ys[i]? = some y ∧ R x y
 | _, _, _, _, .nil, e => by simp at e
 | _, _, 0, _, .cons r _, e => by simp at e; subst e; exact ⟨_, rfl, r⟩
 | _, _, i + 1, _, .cons _ t, e => by simpa using pr_get (i := i) t (by simpa using e)
noncomputable def textB (z : Str) : Bool := decide (1 ≤ z.length) && decide (z.length ≤ 60) && (signsV z).all inS
noncomputable def chunk (t : Str) (i : Nat) : Str := Txt.slice t (some ((4 * i : Nat) : Int)) (some ((4 * i + 4 : Nat) : Int))
noncomputable def chunks (t : Str) : List Str := (List.range ((t.length + 3) / 4)).map (chunk t)
noncomputable def ThV (H : Hp) (v : V) (k s : Str) : Prop := ∃ p, v = .ref p ∧ H p = some (.tup [.str k, .str s])
noncomputable def hand0 (side R own other f l : Int) : Hn := ⟨side, R, ⟨R, own, 0, 0, []⟩, ⟨R, 0, 0, 1, .non, false, [], [], [], [], l, f, 0, MeterM.mn 2 other, none, other, other, 0⟩, "shut", false, []⟩
noncomputable def TmAt (CT : Addr) (H : Hp) (x : Addr) (r o t g f l : Int) : Prop := ∃ dx p, H x = some (.ins CT dx (fl_Terms (.int r) (.ref p) (.int g) (.int f) (.int l))) ∧ H p = some (.tup [.int o, .int t])
theorem TmAt.same {CT x : Addr} {H H' : Hp} {r o t g f l : Int} (h : TmAt CT H x r o t g f l) (s : Same H H') : TmAt CT H' x r o t g f l := by
 obtain ⟨dx, p, h1, h2⟩ := h
 exact ⟨dx, p, s _ _ h1, s _ _ h2⟩
noncomputable def sp_is_text  : Sp := fun vs H Q E => match vs with
 | [.str z] => z.length ≤ 1000 ∧ ∀ H', Same H H' → Q (.bl (textB z)) H'
 | _ => False
noncomputable def sp_Hand___init__  (C_Hand : Addr) (C_Taker : Addr) (C_Sender : Addr) (C_Ways : Addr) (C_Meter : Addr) (C_Shut : Addr) (C_Calling : Addr) (C_Leaving : Addr) (C_Terms : Addr) : Sp := fun vs H Q E => match vs with
 | [.ref x, .int side, .ref tm] => ∃ dx r o t g f l, H x = some (.ins C_Hand dx []) ∧ TmAt C_Terms H tm r o t g f l ∧ good r o t g f l ∧ (side = 0 ∨ side = 1) ∧ ∀ A H', But x H H' → (∀ b, b ∈ (foot x A).tail → H b = none) → HandAt C_Hand C_Taker C_Sender C_Ways C_Meter (tbl C_Shut C_Calling C_Leaving) H' x A (hand0 side r (if side = 0 then o else t) (if side = 0 then t else o) f l) → Q .non H'
 | _ => False
noncomputable def sp_Hand_name  (C_Hand : Addr) (C_Taker : Addr) (C_Sender : Addr) (C_Ways : Addr) (C_Meter : Addr) (C_Shut : Addr) (C_Calling : Addr) (C_Leaving : Addr) : Sp := fun vs H Q E => match vs with
 | [.ref x] => ∃ A z, HandAt C_Hand C_Taker C_Sender C_Ways C_Meter (tbl C_Shut C_Calling C_Leaving) H x A z ∧ Q (.str z.nm) H
 | _ => False
noncomputable def sp_Hand_quiet  (C_Hand : Addr) (C_Taker : Addr) (C_Sender : Addr) (C_Ways : Addr) (C_Meter : Addr) (C_Shut : Addr) (C_Calling : Addr) (C_Leaving : Addr) : Sp := fun vs H Q E => match vs with
 | [.ref x] => ∃ A z, HandAt C_Hand C_Taker C_Sender C_Ways C_Meter (tbl C_Shut C_Calling C_Leaving) H x A z ∧ Q (.bl (decide (z.sd.b = z.sd.t) && decide (z.sd.t = z.sd.T.length) && !z.due)) H
 | _ => False
noncomputable def sp_Hand_begin  (C_Hand : Addr) (C_Taker : Addr) (C_Sender : Addr) (C_Ways : Addr) (C_Meter : Addr) (C_Shut : Addr) (C_Calling : Addr) (C_Leaving : Addr) (C_NotNow : Addr) (K : PySem.W.Frag) : Sp := fun vs H Q E => match vs with
 | [.ref x] => ∃ A z, HandAt C_Hand C_Taker C_Sender C_Ways C_Meter (tbl C_Shut C_Calling C_Leaving) H x A z ∧ z.sd.T.length < 1000 ∧ (∀ nx, nextS z.nm "begin" = some nx → ∀ a st' H', (∀ H, SqT K H a [.str "begin", .str ""]) → Kp (foot x A) H H' → HandAt C_Hand C_Taker C_Sender C_Ways C_Meter (tbl C_Shut C_Calling C_Leaving) H' x { A with st := st' } { z with nm := nx, sd := { z.sd with T := z.sd.T ++ [.ref a] } } → Q .non H') ∧ (nextS z.nm "begin" = none → ∀ H' d, Same H H' → H' d = some (.xd [("state", .str z.nm), ("wish", .str "begin")]) → E (.ref C_NotNow) (some d) H')
 | _ => False
noncomputable def sp_Hand_end  (C_Hand : Addr) (C_Taker : Addr) (C_Sender : Addr) (C_Ways : Addr) (C_Meter : Addr) (C_Shut : Addr) (C_Calling : Addr) (C_Leaving : Addr) (C_NotNow : Addr) (K : PySem.W.Frag) : Sp := fun vs H Q E => match vs with
 | [.ref x] => ∃ A z, HandAt C_Hand C_Taker C_Sender C_Ways C_Meter (tbl C_Shut C_Calling C_Leaving) H x A z ∧ z.sd.T.length < 1000 ∧ z.ends.length < 1000 ∧ (∀ nx, nextS z.nm "end" = some nx → ∀ a st' H', (∀ H, SqT K H a [.str "end", .str ""]) → Kp (foot x A) H H' → HandAt C_Hand C_Taker C_Sender C_Ways C_Meter (tbl C_Shut C_Calling C_Leaving) H' x { A with st := st' } { z with nm := nx, ends := z.ends ++ [(z.sd.T.length : Int)], sd := { z.sd with T := z.sd.T ++ [.ref a] } } → Q .non H') ∧ (nextS z.nm "end" = none → ∀ H' d, Same H H' → H' d = some (.xd [("state", .str z.nm), ("wish", .str "end")]) → E (.ref C_NotNow) (some d) H')
 | _ => False
noncomputable def sp_Hand_put  (C_Hand : Addr) (C_Taker : Addr) (C_Sender : Addr) (C_Ways : Addr) (C_Meter : Addr) (C_Shut : Addr) (C_Calling : Addr) (C_Leaving : Addr) (C_NotNow : Addr) (C_BadText : Addr) : Sp := fun vs H Q E => match vs with
 | [.ref x, .str t] => ∃ A z, HandAt C_Hand C_Taker C_Sender C_Ways C_Meter (tbl C_Shut C_Calling C_Leaving) H x A z ∧ z.sd.T.length ≤ 980 ∧ t.length ≤ 1000 ∧ (textB t = false → ∀ H', Same H H' → E (.ref C_BadText) none H') ∧ (textB t = true → mayB z.nm = false → ∀ H' d, Same H H' → H' d = some (.xd [("state", .str z.nm), ("wish", .str "put")]) → E (.ref C_NotNow) (some d) H') ∧ (textB t = true → mayB z.nm = true → ∀ vs H', Kp (foot x A) H H' → HandAt C_Hand C_Taker C_Sender C_Ways C_Meter (tbl C_Shut C_Calling C_Leaving) H' x A { z with sd := { z.sd with T := z.sd.T ++ vs } } → Paired (fun v s => ThV H' v "signs" s) vs (chunks t) → Q .non H')
 | _ => False
noncomputable def sp__law_cell_at  (K : PySem.W.Frag) (a₀ : Addr) (ns : List Int) : Sp := fun vs H Q E => match vs with
 | [.ref a, .int k] => a = a₀ ∧ SqL K H a₀ (ns.map V.int) ∧ 0 ≤ k ∧ ∀ n, Q (.int n) H
 | _ => False
noncomputable def sp__law_mixed  : Sp := fun vs H Q E => match vs with
 | [.int c, .int k] => 0 ≤ k ∧ ∀ v, 0 ≤ v → v < 2147483648 → Q (.int v) H
 | _ => False
noncomputable def wide (r o t g f l : Int) : Prop := good r o t g f l ∧ ¬ r < leastF o t g
noncomputable def sp__law_terms  (C_Terms : Addr) : Sp := fun vs H Q E => match vs with
 | [.int c, .int n] => ∀ x r o t g f l H', Same H H' → TmAt C_Terms H' x r o t g f l → wide r o t g f l → Q (.ref x) H'
 | _ => False
noncomputable def sp__law_text  : Sp := fun vs H Q E => match vs with
 | [.int c, .int n] => (0 ≤ n ∧ n ≤ 100) ∧ ∀ z H', Same H H' → (z.length : Int) = n → (∀ c ∈ z.cps.toList, c ∈ sgl) → Q (.str z) H'
 | _ => False
noncomputable def ThK (K : PySem.W.Frag) (H : Hp) (v : V) (t : Str × Str) : Prop := ∃ p, v = .ref p ∧ SqT K H p [.str t.1, .str t.2]
theorem ThK.keep {K : PySem.W.Frag} {H H' : Hp} {v : V} {t : Str × Str} (h : ThK K H v t) (k : ∀ p o, H p = some o → Imm o → H' p = some o) : ThK K H' v t := by
 obtain ⟨p, rfl, h⟩ := h
 refine ⟨p, rfl, ?_⟩
 rcases h with (h | ⟨o, h⟩) | h
 ·exact .inl (.inl (k _ _ h (.inl ⟨_, rfl⟩)))
 ·exact .inl (.inr ⟨o, k _ _ h (.inr (.inr ⟨_, _, rfl⟩))⟩)
 ·exact .inr h
noncomputable def thOf (w t : Str) : List (Str × Str) := if w = "put" then (chunks t).map fun s => ("signs", s) else [(w, "")]
noncomputable def mayW (nm w : Str) : Bool := if w = "put" then mayB nm else (nextS nm w).isSome
noncomputable def nxt (nm w : Str) : Str := if w = "put" then nm else (nextS nm w).getD nm
theorem co_rngSH {lo c : Int} {n : Nat} {g : TG} {tt : TT} {te : TE} {H : Hp} {σ : St} {Q : List V → Hp → Prop} (Pv : Nat → List V → St → Hp → Prop) (h0 : Pv 0 [] σ H) (hz : n ≤ sizeLine) (hl : ∀ i ys σ H, Pv i ys σ H → ys.length ≤ i)
  (step : ∀ (i : Nat) ys σ H, i < n → Pv i ys σ H → g (.int (lo + i * c)) σ H fun σ2 H2 => tt σ2 H2 fun b H3 => if b = true then te σ2 H3 fun y H4 => Pv (i + 1) (ys ++ [y]) σ2 H4 else Pv (i + 1) ys σ2 H3) (q : ∀ ys σ H, Pv n ys σ H → Q ys H) : compR (ItrS lo c n) g tt te σ H Q := by
 refine co_any Pv h0 hz hl (fun i _ _ _ hi _ => hi) (fun _ _ _ _ => Nat.le_refl _) (fun i ys σ H x H'' hi hp y => ?_) q
 obtain ⟨e, rfl⟩ := y
 subst e
 exact step i ys σ _ hi hp
theorem sgl_in {c : Nat} (h : c ∈ sgl) : inS (.str ⟨#[c]⟩) = true := by
 show (!(Builtin.Str.occurrences signsS ⟨#[c]⟩ 0 signsS.length 1).isEmpty) = true
 rw [(occ_sgn h).1]; rfl
theorem text_ok {z : Str} (h1 : 1 ≤ z.length) (h2 : z.length ≤ 60) (hc : ∀ c ∈ z.cps.toList, c ∈ sgl) : textB z = true := by
 unfold textB
 rw [decide_eq_true h1, decide_eq_true h2, Bool.true_and, Bool.true_and, List.all_eq_true]
 intro v hv
 obtain ⟨c, hm, rfl⟩ := List.mem_map.mp hv
 exact sgl_in (hc c hm)
noncomputable def aftV (n w : Str) : V := if w = "begin" ∧ n = "shut" then .str "calling" else if w = "end" ∧ n = "calling" then .str "leaving" else if w = "put" ∧ n = "calling" then .str "calling" else .non
theorem slice_lo {z : Str} {j : Int} (h0 : 0 ≤ j) (h1 : j ≤ z.length) : (Txt.slice z none (some j)).length ≤ z.length := by
 have hl : z.cps.toList.length = z.length := by simp [Str.length]
 have e : Txt.slice z none (some j) = _ := StrLaws.sliceText_to (x := z) (j := j) ⟨h0, by omega⟩
 rw [e]
 show ((z.cps.toList.drop 0).take (j - 0).toNat).toArray.size ≤ _
 rw [List.size_toArray, List.length_take, List.drop_zero]
 omega
theorem slice_hi {z : Str} {j : Int} (h0 : 0 ≤ j) (h1 : j ≤ z.length) : (Txt.slice z (some j) none).length ≤ z.length := by
 have hl : z.cps.toList.length = z.length := by simp [Str.length]
 have e : Txt.slice z (some j) none = _ := StrLaws.sliceText_from (x := z) (i := j) ⟨h0, by omega⟩
 rw [e]
 show (List.toArray _).size ≤ _
 rw [List.size_toArray]
 rw [List.length_take, List.length_drop]
 omega
theorem bad_mid {a b : Str} {c : Nat} (hc : inS (.str ⟨#[c]⟩) = false) : textB (a ++ ⟨#[c]⟩ ++ b) = false := by
 unfold textB
 have : (signsV (a ++ ⟨#[c]⟩ ++ b)).all inS = false := by
  rw [← Bool.not_eq_true, List.all_eq_true]
  intro h
  have m : V.str ⟨#[c]⟩ ∈ signsV (a ++ ⟨#[c]⟩ ++ b) := by
   unfold signsV
   refine List.mem_map.mpr ⟨c, ?_, rfl⟩
   show c ∈ ((a.cps ++ #[c]) ++ b.cps).toList
   simp
  have := h _ m
  rw [hc] at this; cases this
 rw [this, Bool.and_false]
theorem aft_may {nm w : Str} (hn : nm = "shut" ∨ nm = "calling" ∨ nm = "leaving") (hw : w = "begin" ∨ w = "end" ∨ w = "put") : (mayW nm w = true ∧ aftV nm w = .str (nxt nm w) ∧ (nxt nm w = "shut" ∨ nxt nm w = "calling" ∨ nxt nm w = "leaving")) ∨ (mayW nm w = false ∧ aftV nm w = .non) := by
 rcases hn with rfl | rfl | rfl <;> rcases hw with rfl | rfl | rfl <;> decide +kernel
noncomputable def sp__law_bad_text  : Sp := fun vs H Q E => match vs with
 | [.int c] => ∀ z H', Same H H' → z.length ≤ 1000 → textB z = false → Q (.str z) H'
 | _ => False
noncomputable def sp__law_bad  (C_Hand : Addr) (C_Taker : Addr) (C_Sender : Addr) (C_Ways : Addr) (C_Meter : Addr) (C_Shut : Addr) (C_Calling : Addr) (C_Leaving : Addr) : Sp := fun vs H Q E => match vs with
 | [.ref x, .str t] => ∃ A z, HandAt C_Hand C_Taker C_Sender C_Ways C_Meter (tbl C_Shut C_Calling C_Leaving) H x A z ∧ z.sd.T.length ≤ 980 ∧ t.length ≤ 1000 ∧ textB t = false ∧ ∀ H', Same H H' → Q (.bl true) H'
 | _ => False
noncomputable def sp__law_wished  (C_Hand : Addr) (C_Taker : Addr) (C_Sender : Addr) (C_Ways : Addr) (C_Meter : Addr) (C_Shut : Addr) (C_Calling : Addr) (C_Leaving : Addr) (K : PySem.W.Frag) : Sp := fun vs H Q E => match vs with
 | [.ref x, .str w, .str t] => ∃ A z, HandAt C_Hand C_Taker C_Sender C_Ways C_Meter (tbl C_Shut C_Calling C_Leaving) H x A z ∧ z.sd.T.length ≤ 980 ∧ z.ends.length < 1000 ∧ t.length ≤ 1000 ∧ textB t = true ∧ (w = "begin" ∨ w = "end" ∨ w = "put") ∧ (mayW z.nm w = true → ∀ st' vs es H', Kp (foot x A) H H' → es.length ≤ z.ends.length + 1 → HandAt C_Hand C_Taker C_Sender C_Ways C_Meter (tbl C_Shut C_Calling C_Leaving) H' x { A with st := st' } { z with nm := nxt z.nm w, ends := es, sd := { z.sd with T := z.sd.T ++ vs } } → Paired (ThK K H') vs (thOf w t) → Q (.str "ok") H') ∧ (mayW z.nm w = false → ∀ p H', Same H H' → H' p = some (.tup [.str z.nm, .str w, .bl true, .bl false]) → Q (.ref p) H')
 | _ => False
noncomputable def sp__law_after  : Sp := fun vs H Q E => match vs with
 | [.str n, .str w] => Q (aftV n w) H
 | _ => False
noncomputable def sp__law_put  (C_Hand : Addr) (C_Taker : Addr) (C_Sender : Addr) (C_Ways : Addr) (C_Meter : Addr) (C_Shut : Addr) (C_Calling : Addr) (C_Leaving : Addr) (K : PySem.W.Frag) : Sp := fun vs H Q E => match vs with
 | [.ref x, .ref pd] => ∃ A z vs ths, HandAt C_Hand C_Taker C_Sender C_Ways C_Meter (tbl C_Shut C_Calling C_Leaving) H x A z ∧ H pd = some (.lst vs) ∧ Paired (ThK K H) vs ths ∧ Paired (ThK K H) z.sd.T ths ∧ z.sd.b = 0 ∧ z.sd.t = 0 ∧ z.sd.e = 1 ∧ ths.length ≤ 1000 ∧ Q (.bl true) H
 | _ => False
noncomputable def sp__law_made_by  (C_Hand : Addr) (C_Taker : Addr) (C_Sender : Addr) (C_Ways : Addr) (C_Meter : Addr) (C_Shut : Addr) (C_Calling : Addr) (C_Leaving : Addr) (C_Terms : Addr) : Sp := fun vs H Q E => match vs with
 | [.ref x, .ref tm, .int side] => ∃ A z r o t g f l, HandAt C_Hand C_Taker C_Sender C_Ways C_Meter (tbl C_Shut C_Calling C_Leaving) H x A z ∧ TmAt C_Terms H tm r o t g f l ∧ good r o t g f l ∧ (side = 0 ∨ side = 1) ∧ z.sd.w = f ∧ z.sd.L = l ∧ z.sd.kn = (if side = 0 then t else o) ∧ z.tk = ⟨r, if side = 0 then o else t, 0, 0, []⟩ ∧ ∀ H', Kp (foot x A) H H' → Q (.bl true) H'
 | _ => False
noncomputable def sp__law_step  (C_Hand : Addr) (C_Taker : Addr) (C_Sender : Addr) (C_Ways : Addr) (C_Meter : Addr) (C_Shut : Addr) (C_Calling : Addr) (C_Leaving : Addr) (K : PySem.W.Frag) : Sp := fun vs H Q E => match vs with
 | [.ref x, .str n, .ref pd, .int c] => ∃ A z vs, HandAt C_Hand C_Taker C_Sender C_Ways C_Meter (tbl C_Shut C_Calling C_Leaving) H x A z ∧ n = z.nm ∧ (n = "shut" ∨ n = "calling" ∨ n = "leaving") ∧ z.sd.T.length ≤ 980 ∧ z.ends.length < 1000 ∧ H pd = some (.lst vs) ∧ vs.length ≤ 980 ∧ pd ∉ foot x A ∧ ∀ (nm' : Str) st' ts ds ths es H', Kp (pd :: foot x A) H H' → (nm' = "shut" ∨ nm' = "calling" ∨ nm' = "leaving") → es.length ≤ z.ends.length + 1 → ths.length ≤ 15 → HandAt C_Hand C_Taker C_Sender C_Ways C_Meter (tbl C_Shut C_Calling C_Leaving) H' x { A with st := st' } { z with nm := nm', ends := es, sd := { z.sd with T := z.sd.T ++ ts } } → Paired (ThK K H') ts ths → H' pd = some (.lst (vs ++ ds)) → Paired (ThK K H') ds ths → Q (.str nm') H'
 | _ => False
noncomputable def F63 (x0 x1 : Addr) (A0 A1 : HAd) (pd0 pd1 pn ph pds : Addr) : List Addr := foot x0 A0 ++ (foot x1 A1 ++ [pd0, pd1, pn, ph, pds])
noncomputable def z63 (side r o t f l : Int) (nm : Str) (T : List V) (e : List Int) : Hn := { hand0 side r o t f l with nm := nm, ends := e, sd := { (hand0 side r o t f l).sd with T := T } }
noncomputable def D63 (K : PySem.W.Frag) (H : Hp) (pd : Addr) (T : List V) (N : Nat) : Prop := ∃ vs ths, H pd = some (.lst vs) ∧ Paired (ThK K H) vs ths ∧ Paired (ThK K H) T ths ∧ ths.length ≤ 15 * N
theorem D63.keep {K : PySem.W.Frag} {H H' : Hp} {pd : Addr} {T : List V} {N : Nat} (h : D63 K H pd T N) (k : ∀ p o, H p = some o → Imm o → H' p = some o) (k2 : ∀ o, H pd = some o → H' pd = some o) : D63 K H' pd T N := by
 obtain ⟨vs, ths, h1, h2, h3, h4⟩ := h
 exact ⟨vs, ths, k2 _ h1, pr_imp h2 fun _ _ q => q.keep k, pr_imp h3 fun _ _ q => q.keep k, h4⟩
structure I63 (CH CT CS CW CM CTm : Addr) (tb : List (Addr × Str)) (K : PySem.W.Frag) (x0 x1 : Addr) (A0 A1 : HAd) (pd0 pd1 pn ph pds tm : Addr) (r o t g f l : Int) (H : Hp) (nm0 nm1 : Str) (T0 T1 : List V) (e0 e1 : List Int) (N : Nat) : Prop where
 h0 : HandAt CH CT CS CW CM tb H x0 A0 (z63 0 r o t f l nm0 T0 e0)
 h1 : HandAt CH CT CS CW CM tb H x1 A1 (z63 1 r t o f l nm1 T1 e1)
 d0 : D63 K H pd0 T0 N
 d1 : D63 K H pd1 T1 N
 n0 : nm0 = "shut" ∨ nm0 = "calling" ∨ nm0 = "leaving"
 n1 : nm1 = "shut" ∨ nm1 = "calling" ∨ nm1 = "leaving"
 l0 : e0.length ≤ N
 l1 : e1.length ≤ N
 hn : H pn = some (.lst [.str nm0, .str nm1])
 hh : H ph = some (.lst [.ref x0, .ref x1])
 hd : H pds = some (.lst [.ref pd0, .ref pd1])
 ht : TmAt CTm H tm r o t g f l
 nd : (F63 x0 x1 A0 A1 pd0 pd1 pn ph pds).Nodup
 it : tm ∉ F63 x0 x1 A0 A1 pd0 pd1 pn ph pds
theorem nd_disj {l1 l2 : List Addr} (h : (l1 ++ l2).Nodup) {b : Addr} (h1 : b ∈ l1) (h2 : b ∈ l2) : False := (List.nodup_append.mp h).2.2 b h1 b h2 rfl
theorem TmAt.kp {CT x : Addr} {H H' : Hp} {S : List Addr} {r o t g f l : Int} (h : TmAt CT H x r o t g f l) (k : Kp S H H') (n : x ∉ S) (im : ∀ b o, H b = some o → Imm o → b ∉ S) : TmAt CT H' x r o t g f l := by
 obtain ⟨dx, p, h1, h2⟩ := h
 exact ⟨dx, p, k _ _ h1 n, k _ _ h2 (im _ _ h2 (.inl ⟨_, rfl⟩))⟩
section
variable {CH CT CS CW CM CTm : Addr} {tb : List (Addr × Str)} {K : PySem.W.Frag} {x0 x1 : Addr} {A0 A1 : HAd} {pd0 pd1 pn ph pds tm : Addr} {r o t g f l : Int} {H H' : Hp} {nm0 nm1 : Str} {T0 T1 : List V} {e0 e1 : List Int} {N : Nat}
theorem I63.imm (I : I63 CH CT CS CW CM CTm tb K x0 x1 A0 A1 pd0 pd1 pn ph pds tm r o t g f l H nm0 nm1 T0 T1 e0 e1 N) {b : Addr} {u : HO} (e : H b = some u) (i : Imm u) : b ∉ F63 x0 x1 A0 A1 pd0 pd1 pn ph pds := by
 intro m
 have nl : ∀ {p : Addr} {vs : List V}, H p = some (.lst vs) → b ≠ p := fun {p vs} q z => by rw [z, q] at e; cases e; exact imm_lst i
 obtain ⟨v0, _, q0, _⟩ := I.d0
 obtain ⟨v1, _, q1, _⟩ := I.d1
 rcases List.mem_append.mp m with m | m
 ·exact I.h0.imm e i m
 rcases List.mem_append.mp m with m | m
 ·exact I.h1.imm e i m
 simp only [List.mem_cons, List.not_mem_nil, or_false] at m
 rcases m with m | m | m | m | m
 ·exact nl q0 m
 ·exact nl q1 m
 ·exact nl I.hn m
 ·exact nl I.hh m
 ·exact nl I.hd m
theorem I63.same (I : I63 CH CT CS CW CM CTm tb K x0 x1 A0 A1 pd0 pd1 pn ph pds tm r o t g f l H nm0 nm1 T0 T1 e0 e1 N) (s : Same H H') : I63 CH CT CS CW CM CTm tb K x0 x1 A0 A1 pd0 pd1 pn ph pds tm r o t g f l H' nm0 nm1 T0 T1 e0 e1 N :=
 ⟨I.h0.same s, I.h1.same s, I.d0.keep (fun _ _ e _ => s _ _ e) (fun _ e => s _ _ e), I.d1.keep (fun _ _ e _ => s _ _ e) (fun _ e => s _ _ e), I.n0, I.n1, I.l0, I.l1, s _ _ I.hn, s _ _ I.hh, s _ _ I.hd, I.ht.same s, I.nd, I.it⟩
theorem D63.more {pd : Addr} {T vs ds ts : List V} {ths ths' : List (Str × Str)} (h0 : H pd = some (.lst vs)) (h1 : Paired (ThK K H) vs ths) (h2 : Paired (ThK K H) T ths) (h3 : ths.length ≤ 15 * N) (k : ∀ p o, H p = some o → Imm o → H' p = some o) (e : H' pd = some (.lst (vs ++ ds))) (p1 : Paired (ThK K H') ts ths') (p2 : Paired (ThK K H') ds ths') (l : ths'.length ≤ 15) : D63 K H' pd (T ++ ts) (N + 1) :=
 ⟨_, ths ++ ths', e, pr_app (pr_imp h1 fun _ _ q => q.keep k) p2, pr_app (pr_imp h2 fun _ _ q => q.keep k) p1, by rw [List.length_append]; omega⟩
theorem D63.up {pd : Addr} {T : List V} (h : D63 K H pd T N) : D63 K H pd T (N + 1) := by
 obtain ⟨vs, ths, h1, h2, h3, h4⟩ := h
 exact ⟨vs, ths, h1, h2, h3, by omega⟩
theorem I63.step0 {st' : Addr} {nm' : Str} {es : List Int} {ts ds vs : List V} {ths ths0 : List (Str × Str)} (I : I63 CH CT CS CW CM CTm tb K x0 x1 A0 A1 pd0 pd1 pn ph pds tm r o t g f l H nm0 nm1 T0 T1 e0 e1 N) (q0 : H pd0 = some (.lst vs)) (q1 : Paired (ThK K H) vs ths0) (q2 : Paired (ThK K H) T0 ths0) (q3 : ths0.length ≤ 15 * N)
  (k : Kp (pd0 :: foot x0 A0) H H') (hn : nm' = "shut" ∨ nm' = "calling" ∨ nm' = "leaving") (le : es.length ≤ e0.length + 1) (lt : ths.length ≤ 15) (hA : HandAt CH CT CS CW CM tb H' x0 { A0 with st := st' } (z63 0 r o t f l nm' (T0 ++ ts) es)) (p1 : Paired (ThK K H') ts ths) (e : H' pd0 = some (.lst (vs ++ ds))) (p2 : Paired (ThK K H') ds ths) :
  H' pn = some (.lst [.str nm0, .str nm1]) ∧ I63 CH CT CS CW CM CTm tb K x0 x1 { A0 with st := st' } A1 pd0 pd1 pn ph pds tm r o t g f l (upd H' pn (.lst [.str nm', .str nm1])) nm' nm1 (T0 ++ ts) T1 es e1 (N + 1) := by
 have n12 := I.nd
 have n2 := (List.nodup_append.mp n12).2.1
 have n3 := (List.nodup_append.mp n2).2.1
 have out : ∀ {b : Addr}, b ∉ F63 x0 x1 A0 A1 pd0 pd1 pn ph pds → b ∉ pd0 :: foot x0 A0 := fun n m => n (by
  rcases List.mem_cons.mp m with z | m
  ·rw [z]; simp [F63]
  ·exact List.mem_append_left _ m)
 have im : ∀ b u, H b = some u → Imm u → b ∉ pd0 :: foot x0 A0 := fun b u e i => out (I.imm e i)
 have o1 : ∀ b, b ∈ foot x1 A1 → b ∉ pd0 :: foot x0 A0 := fun b hb m => by
  rcases List.mem_cons.mp m with z | m
  ·exact nd_disj n2 hb (by rw [z]; simp)
  ·exact nd_disj n12 m (List.mem_append_left _ hb)
 have o2 : ∀ {i : Nat} {b : Addr}, [pd0, pd1, pn, ph, pds][i]? = some b → i ≠ 0 → b ∉ pd0 :: foot x0 A0 := fun {i b} hi h0 m => by
  rcases List.mem_cons.mp m with z | m
  ·exact nd_ne n3 hi (j := 0) rfl h0 z
  ·exact nd_disj n12 m (List.mem_append_right _ (List.mem_of_getElem? hi))
 have hpn := k _ _ I.hn (o2 (i := 2) rfl (by omega))
 have k2 : Kp [pn] H' (upd H' pn (.lst [.str nm', .str nm1])) := Kp.one
 have im2 : ∀ b u, H' b = some u → Imm u → b ∉ [pn] := fun b u e i m => by rw [List.mem_singleton.mp m, hpn] at e; cases e; exact imm_lst i
 have imk : ∀ p o, H' p = some o → Imm o → upd H' pn (.lst [.str nm', .str nm1]) p = some o := fun p o e i => k2 _ _ e (im2 _ _ e i)
 have imk0 : ∀ p o, H p = some o → Imm o → H' p = some o := fun p o e i => k _ _ e (im _ _ e i)
 have o3 : ∀ {i : Nat} {b : Addr}, [pd0, pd1, pn, ph, pds][i]? = some b → i ≠ 2 → b ∉ [pn] := fun {i b} hi h0 m => nd_ne n3 hi (j := 2) rfl h0 (List.mem_singleton.mp m)
 have pn0 : pn ∉ foot x0 A0 := fun m => nd_disj n12 m (by simp)
 have pn1 : pn ∉ foot x1 A1 := fun m => nd_disj n2 m (by simp)
 refine ⟨hpn, hA.kp k2 (fun b hb m => pn0 (by rw [← List.mem_singleton.mp m]; exact hb)) im2, (I.h1.kp k o1 im).kp k2 (fun b hb m => pn1 (by rw [← List.mem_singleton.mp m]; exact hb)) im2,
  (D63.more q0 q1 q2 q3 imk0 e p1 p2 lt).keep imk (fun _ e => k2 _ _ e (o3 (i := 0) rfl (by omega))), ((I.d1.keep imk0 (fun _ e => k _ _ e (o2 (i := 1) rfl (by omega)))).keep imk (fun _ e => k2 _ _ e (o3 (i := 1) rfl (by omega)))).up, hn, I.n1, by have := I.l0; omega, by have := I.l1; omega, upd_same,
  k2 _ _ (k _ _ I.hh (o2 (i := 3) rfl (by omega))) (o3 (i := 3) rfl (by omega)), k2 _ _ (k _ _ I.hd (o2 (i := 4) rfl (by omega))) (o3 (i := 4) rfl (by omega)), (I.ht.kp k (out I.it) im).kp k2 (fun m => I.it (by rw [List.mem_singleton.mp m]; simp [F63])) im2, n12, I.it⟩
theorem I63.step1 {st' : Addr} {nm' : Str} {es : List Int} {ts ds vs : List V} {ths ths0 : List (Str × Str)} (I : I63 CH CT CS CW CM CTm tb K x0 x1 A0 A1 pd0 pd1 pn ph pds tm r o t g f l H nm0 nm1 T0 T1 e0 e1 N) (q0 : H pd1 = some (.lst vs)) (q1 : Paired (ThK K H) vs ths0) (q2 : Paired (ThK K H) T1 ths0) (q3 : ths0.length ≤ 15 * N)
  (k : Kp (pd1 :: foot x1 A1) H H') (hn : nm' = "shut" ∨ nm' = "calling" ∨ nm' = "leaving") (le : es.length ≤ e1.length + 1) (lt : ths.length ≤ 15) (hA : HandAt CH CT CS CW CM tb H' x1 { A1 with st := st' } (z63 1 r t o f l nm' (T1 ++ ts) es)) (p1 : Paired (ThK K H') ts ths) (e : H' pd1 = some (.lst (vs ++ ds))) (p2 : Paired (ThK K H') ds ths) :
  H' pn = some (.lst [.str nm0, .str nm1]) ∧ I63 CH CT CS CW CM CTm tb K x0 x1 A0 { A1 with st := st' } pd0 pd1 pn ph pds tm r o t g f l (upd H' pn (.lst [.str nm0, .str nm'])) nm0 nm' T0 (T1 ++ ts) e0 es (N + 1) := by
 have n12 := I.nd
 have n2 := (List.nodup_append.mp n12).2.1
 have n3 := (List.nodup_append.mp n2).2.1
 have out : ∀ {b : Addr}, b ∉ F63 x0 x1 A0 A1 pd0 pd1 pn ph pds → b ∉ pd1 :: foot x1 A1 := fun n m => n (by
  rcases List.mem_cons.mp m with z | m
  ·rw [z]; simp [F63]
  ·exact List.mem_append_right _ (List.mem_append_left _ m))
 have im : ∀ b u, H b = some u → Imm u → b ∉ pd1 :: foot x1 A1 := fun b u e i => out (I.imm e i)
 have o1 : ∀ b, b ∈ foot x0 A0 → b ∉ pd1 :: foot x1 A1 := fun b hb m => by
  rcases List.mem_cons.mp m with z | m
  ·exact nd_disj n12 hb (by rw [z]; simp)
  ·exact nd_disj n12 hb (List.mem_append_left _ m)
 have o2 : ∀ {i : Nat} {b : Addr}, [pd0, pd1, pn, ph, pds][i]? = some b → i ≠ 1 → b ∉ pd1 :: foot x1 A1 := fun {i b} hi h0 m => by
  rcases List.mem_cons.mp m with z | m
  ·exact nd_ne n3 hi (j := 1) rfl h0 z
  ·exact nd_disj n2 m (List.mem_of_getElem? hi)
 have hpn := k _ _ I.hn (o2 (i := 2) rfl (by omega))
 have k2 : Kp [pn] H' (upd H' pn (.lst [.str nm0, .str nm'])) := Kp.one
 have im2 : ∀ b u, H' b = some u → Imm u → b ∉ [pn] := fun b u e i m => by rw [List.mem_singleton.mp m, hpn] at e; cases e; exact imm_lst i
 have imk : ∀ p o, H' p = some o → Imm o → upd H' pn (.lst [.str nm0, .str nm']) p = some o := fun p o e i => k2 _ _ e (im2 _ _ e i)
 have imk0 : ∀ p o, H p = some o → Imm o → H' p = some o := fun p o e i => k _ _ e (im _ _ e i)
 have o3 : ∀ {i : Nat} {b : Addr}, [pd0, pd1, pn, ph, pds][i]? = some b → i ≠ 2 → b ∉ [pn] := fun {i b} hi h0 m => nd_ne n3 hi (j := 2) rfl h0 (List.mem_singleton.mp m)
 have pn0 : pn ∉ foot x0 A0 := fun m => nd_disj n12 m (by simp)
 have pn1 : pn ∉ foot x1 A1 := fun m => nd_disj n2 m (by simp)
 refine ⟨hpn, (I.h0.kp k o1 im).kp k2 (fun b hb m => pn0 (by rw [← List.mem_singleton.mp m]; exact hb)) im2, hA.kp k2 (fun b hb m => pn1 (by rw [← List.mem_singleton.mp m]; exact hb)) im2,
  ((I.d0.keep imk0 (fun _ e => k _ _ e (o2 (i := 0) rfl (by omega)))).keep imk (fun _ e => k2 _ _ e (o3 (i := 0) rfl (by omega)))).up, (D63.more q0 q1 q2 q3 imk0 e p1 p2 lt).keep imk (fun _ e => k2 _ _ e (o3 (i := 1) rfl (by omega))), I.n0, hn, by have := I.l0; omega, by have := I.l1; omega, upd_same,
  k2 _ _ (k _ _ I.hh (o2 (i := 3) rfl (by omega))) (o3 (i := 3) rfl (by omega)), k2 _ _ (k _ _ I.hd (o2 (i := 4) rfl (by omega))) (o3 (i := 4) rfl (by omega)), (I.ht.kp k (out I.it) im).kp k2 (fun m => I.it (by rw [List.mem_singleton.mp m]; simp [F63])) im2, n12, I.it⟩
end
set_option compiler.extract_closed false in
local macro_rules | `(tactic| exists $es,*) => `(tactic| simp only [tRet, tRetN, tOp, tUn, tVar, tC, tAsg, gName, tSeq, tNext, tBreak, tCont, tIfS, tTest, tB, tNot, tAnd, tOr, tCall, tCons, tNil, tCB, tChain, tAndV, tOrV, tNotV, tIf, tDrop, tSl, tNoPart, tPart, rI0_int, rI_int, rU_int, ex_bl, ex_sv, rEq_int, rNe_int, rEq_str, rNe_str, rEq_bl, rNe_bl, rAddA_int, rAddA_str, rLenA_ref, rLenA_str, rIsi_ii, rIsi_ib, rIsi_is, rIsi_bi, rIsi_bb, rIsi_ss, rIsi_si, rMinA_int, rMaxA_int, rEqA_int, rNeA_int, rEqA_str, rNeA_str, rEqA_bl, rNeA_bl, rIsB_bl, rIsnotB_bl, rIsN_f, rIsN_t, tBM0, tBM, tyV_int, tyV_str, rBitlen_int, rSlA_str, rInA_str, rInA_ref, tFor_seq, tFor_rng1, tFor_rng2, tFor_rng3, tComp_seq, tComp_rng1, tComp_rng2, tComp_rng3, rngR1_int, rngR2_int, rngR3_int, compSt_one, rAll_ref, rAny_ref, rSum_ref, rListA_ref, rTupleA_ref, rDivmodA_int, rAppendA_ref, rSetA_ref, tTup, tLst, tCs, tTC, gTup_ref, gCons_cons, gNil_nil, gSub, tYes, tDrop, small_line, small_lt, Option.join_some, CDiv, CPowA, CMul, cxOf_K, ex_int,
 L2.start, List.map_cons, List.map_nil, List.length_cons, List.length_nil, List.replicate_zero, List.replicate_succ, List.append_nil, List.nil_append, List.cons_append, List.getElem?_cons_zero, List.getElem?_cons_succ, List.set_cons_zero, List.set_cons_succ, decide_eq_true_eq, Bool.not_eq_true', decide_eq_false_iff_not, if_true, if_false, ite_true, ite_false, Bool.false_eq_true, true_and, and_true, Bool.not_true, Bool.not_false, Int.reduceLT, Int.reduceLE, Int.reducePow, Int.reduceToNat, Int.reduceAdd, Int.reduceSub, Int.reduceMul, Int.reduceNeg, Nat.reducePow, Nat.reduceLT, Nat.reduceLeDiff, true_or, or_true, Int.reduceEq, and_self, Nat.reduceAdd, Nat.reduceSub, Int.neg_neg, reduceCtorEq, not_true_eq_false, not_false_eq_true,
 sp_is_from, sp_need, sp_are_rooms, sp_are_waits, sp_NotWide___init__, sp_Terms___init__, sp_Meter___init__, sp_Meter_know_one, sp_Meter_known, sp_Meter_half, sp_Meter_ran_out, sp_Meter_hurried, sp_lowest, sp_Ways___init__, sp_Ways_next_spread, sp_Ways_next_smooth, sp_Ways_least_wait, sp_Ways_measured, sp_Ways_ran_out, sp_Sender_put, sp_Sender_many, sp_Sender_thing, sp_Sender_known_above_base, sp_Sender_under_way, sp_Sender_thing_waits, sp_Sender_hurry_is_due, sp_Sender_new_may_go, sp_Sender_newly_known, sp_Sender_set_clock, sp_Sender_grow_base, sp_Sender_note_held, sp_Sender_go_again, sp_Sender_clock_is_out, sp_Sender_go_new, sp_Sender_ask_for_room, sp_Sender_go, sp_Sender_heard, sp_Sender___init__, sp_ahead, sp_Taker___init__, sp_Taker_room_left, sp_Taker_stand_in_order, sp_Taker_take, sp_Taker_answer, sp_Taker_read, sp_NotNow___init__, sp_Shut_name, sp_Calling_name, sp_Leaving_name, sp_Shut_wish_begin, sp_Calling_wish_end, sp_State_wish_begin, sp_State_wish_end, sp_Calling_may_put, sp_State_may_put, sp_V_name, sp_V_may_put, sp_V_wish_begin, sp_V_wish_end, sp_is_text, sp_Hand___init__, sp_Hand_name, sp_Hand_quiet, sp_Hand_begin, sp_Hand_end, sp_Hand_put, sp__law_cell_at, sp__law_mixed, sp__law_terms, sp__law_text, sp__law_bad_text, sp__law_bad, sp__law_wished, sp__law_after, sp__law_put, sp__law_made_by, sp__law_step, tFldC, sFldC, sAugC, tMtC, tMake, rFld_ref, rSetF_ref, rAugF_ref, rMt_ref, ex_ins, upd_same, upd_upd, L2.ex_som, fl_Meter_1_len, fl_Meter_1_new, fl_Meter_2_len, fl_Meter_2_new, fl_Meter_3_len, fl_Meter_3_new, fl_Meter_new, fl_Meter_get_knee, fl_Ways_1_len, fl_Ways_1_new, fl_Ways_2_len, fl_Ways_2_new, fl_Ways_3_len, fl_Ways_3_new, fl_Ways_len, fl_Ways_new, fl_Ways_get_longest, fl_Ways_get_wait, fl_Ways_put_wait, fl_Ways_no_ran_out, fl_Sender_1_len, fl_Sender_1_new, fl_Sender_2_len, fl_Sender_2_new, fl_Sender_3_len, fl_Sender_3_new, fl_Sender_4_len, fl_Sender_4_new, fl_Sender_5_len, fl_Sender_5_new, fl_Sender_6_len, fl_Sender_6_new, fl_Sender_7_len, fl_Sender_7_new, fl_Sender_8_len, fl_Sender_8_new, fl_Sender_9_len, fl_Sender_9_new, fl_Sender_10_len, fl_Sender_10_new, fl_Sender_11_len, fl_Sender_11_new, fl_Sender_new, fl_Sender_get_ways, fl_Sender_get_meter, fl_Sender_get_things, fl_Sender_get_base, fl_Sender_get_top, fl_Sender_get_edge, fl_Sender_no_put, fl_Sender_no_many, fl_Sender_no_thing, fl_Taker_2_len, fl_Taker_2_new, fl_Taker_3_len, fl_Taker_3_new, fl_Taker_4_len, fl_Taker_4_new, fl_Taker_new, fl_Taker_get_ring, fl_Taker_get_room, fl_Taker_get_got, fl_Taker_get_out, fl_Taker_get_kept, fl_Taker_no_room_left, fl_Taker_no_answer, fl_Hand_1_len, fl_Hand_1_new, fl_Hand_2_len, fl_Hand_2_new, fl_Hand_3_len, fl_Hand_3_new, fl_Hand_4_len, fl_Hand_4_new, fl_Hand_5_len, fl_Hand_5_new, fl_Hand_6_len, fl_Hand_6_new, fl_Hand_len, fl_Hand_new, fl_Hand_get_side, fl_Hand_get_taker, fl_Hand_get_sender, fl_Hand_get_state, fl_Hand_get_answer_due, fl_Hand_get_end_places, fl_Hand_put_state, fl_Hand_no_name, fl_Hand_no_begin, fl_Hand_no_end, fl_Hand_no_put, fl_Hand_no_quiet, fl_Terms_2_len, fl_Terms_2_new, fl_Terms_3_len, fl_Terms_3_new, fl_Terms_4_len, fl_Terms_4_new, fl_Terms_new, fl_Terms_get_ring, fl_Terms_get_rooms, fl_Terms_get_first, fl_Terms_get_longest, tDNewK, rDIn_ref, dinO_t, dinO_f, rDGet_ref, dgO_k, sDPutI, rDPut_ref, dpO_k, tDPopI, rIsD_ref, isDO_k, rDPop_ref, dopO_k, tAug, tMkN, tMtV, tMtVS, tHn, tHt, anyS_t, anyS_f, anyS_nil, rIsiO_ref, ex_ins, upd_same, upd_upd, sFldX2, tFor_enum, rMaxD_ref, tMaxD, rIsiT_ref, tRngV, rRngV_int, rListB_ref, listO_rng, rLenC_ref, lenD_k, tSw, swV_ref, swO_tup, tRev, tChain3, rSGet_ref, sgO_k, sDPutS, rSPut_ref, spO_k, tDisp, tPairs, tDPopD, rDPopD_ref, dodO_k, tTry, tHc, tH0, hx2_t, hx2_f, tCallS, tMakeS, tMtS, Ends.un, tRaise0, tRaiseI, sFldX, tFldX, rFldX_ref, ex_exf, ex_exc, ex_xd, ex_xd1, rEqX_int, rNeX_int, rEqX_str, rNeX_str, rEqX_bl, rNeX_bl, isbO_some, xdOk_n, xdOk_s, rIsiX_ref, rIsiX_ty, gTupX_ref, gOx_tup, gOx_lst, kitAny_2, kit2_t, kit2_f, isiTO_2, rIsiX2_ref, tFldXA, rFldXA_ref, ex_sd, rFindS_str, rIndexS_str, rLjust_str, rIndexT_ref, rIndexL_ref, rJoin_ref, rIxB_ref, rIxB_str, ixO_lst, ixO_tup, atI_0, atI_1, atI_2, atI_3, atI_4, atI_5, L2.atI_last, gTupB_ref, gO_tup, rLenB_ref, rLenB_str, lenO_lst, lenO_tup, rIsiB_ref, rIsiB_i, rIsiB_b, rIsiB_s, isiO_tup, isiO_lst, ex_lst, ex_lst2, tSw, swV_ref, swO_tup, rMinB_ref, rMaxB_ref, $[$es:term],*])
local macro_rules | `(tactic| walk_at "wps") => `(tactic| exists true_and)
section
variable {C_Meter C_Ways C_Sender C_Taker C_Hand C_Terms C_RoadError C_NoPiece C_BadTerms C_NotWide C_BadText C_NotNow C_State C_Shut C_Calling C_Leaving : Addr} {P : Program} {w : World} {K : PySem.W.Frag} {mg : Str → Option Value} {base : Heap}
--SPLIT
theorem ok_is_from (T : Txt K mg C_Meter C_Ways C_Sender C_Taker C_Hand C_Terms C_RoadError C_NoPiece C_BadTerms C_NotWide C_BadText C_NotNow C_State C_Shut C_Calling C_Leaving)  : FnAt P w K mg base (CX1 P w) "is_from" 1 ["value", "low", "high"] sp_is_from := by
 refine T.d_is_from.fn sc_is_from bd_is_from (fun vs H Q E h => ?_) fun f cdv A outer s H vs Q E HR h => ?_
 ·unfold sp_is_from at h; split at h <;> first | rfl | exact h.elim
 ·unfold sp_is_from at h
  split at h
  ·rename_i v l h'
   refine ⟨_, (pss_one (ps_ret (pe_and (pe_callBQ (call_isiK K rfl) (by rfl) T.b_isinstance bt_isinstance (pa_q (pv 0) (pa_q (pe_ty rfl T.b_int bt_int) pa_nil))) (pe_and (pe_not (pe_callBQ (call_isiK K rfl) (by rfl) T.b_isinstance bt_isinstance (pa_q (pv 0) (pa_q (pe_ty rfl T.b_bool bt_bool) pa_nil)))) (pe_one (pe_chain op_le op_le (pv 1) (pv 0) (pv 2))))))), ?_⟩
   walk_at "wps"
   unfold fromB at h
   by_cases c : l ≤ v
   ·rw [if_pos c]; simpa [c] using h
   ·rw [if_neg c]; simpa [c] using h
  ·exact h.elim
theorem ok_need (T : Txt K mg C_Meter C_Ways C_Sender C_Taker C_Hand C_Terms C_RoadError C_NoPiece C_BadTerms C_NotWide C_BadText C_NotNow C_State C_Shut C_Calling C_Leaving)  : FnAt P w K mg base (CX1 P w) "need" 1 ["room", "lag"] sp_need := by
 refine T.d_need.fn sc_need bd_need (fun vs H Q E h => ?_) fun f cdv A outer s H vs Q E HR h => ?_
 ·unfold sp_need at h; split at h <;> first | rfl | exact h.elim
 ·unfold sp_need at h
  split at h
  ·rename_i r l
   refine ⟨_, (pss_one (ps_ret (pe_ifExp (pt_cmpR (op_eqXK K rfl HR.units) (pv 0) pe_int (nomark _)) (pe_op (op_addK K rfl) pe_int (pe_op op_fdiv (pv 1) pe_int)) (pe_op op_sub (pe_op (op_addK K rfl) (pe_op op_mul pe_int (pv 0)) (pv 1)) pe_int)))), ?_⟩
   walk_at "wps"
   unfold needF at h
   split
   ·rename_i c; rw [if_pos c] at h; exact h
   ·rename_i c; rw [if_neg c] at h; exact h
  ·exact h.elim
theorem ok_are_waits (T : Txt K mg C_Meter C_Ways C_Sender C_Taker C_Hand C_Terms C_RoadError C_NoPiece C_BadTerms C_NotWide C_BadText C_NotNow C_State C_Shut C_Calling C_Leaving)  : FnAt P w K mg base (CX1 P w) "are_waits" 2 ["first", "longest"] sp_are_waits := by
 refine T.d_are_waits.fn sc_are_waits bd_are_waits (fun vs H Q E h => ?_) fun f cdv A outer s H vs Q E HR h => ?_
 ·unfold sp_are_waits at h; split at h <;> first | rfl | exact h.elim
 ·unfold sp_are_waits at h
  split at h
  ·rename_i f l
   refine ⟨_, (pss_one (ps_ret (pe_and (pe_fnQ (ok_is_from T) HR (by decide) rfl (pa_q (pv 1) (pa_q (pe_cst rfl T.c_WAIT_LEAST) (pa_q (pe_cst rfl T.c_WAIT_MOST) pa_nil)))) (pe_one (pe_fnQ (ok_is_from T) HR (by decide) rfl (pa_q (pv 0) (pa_q (pe_cst rfl T.c_WAIT_LEAST) (pa_q (pv 1) pa_nil)))))))), ?_⟩
   walk_at "wps"
   by_cases c : 2 ≤ l ∧ l ≤ 64
   ·rw [if_pos (fromB_t c)]
    have e : fromB f 2 l = decide ((2 ≤ l ∧ l ≤ 64) ∧ 2 ≤ f ∧ f ≤ l) := by rw [Bool.eq_iff_iff, fromB_iff, decide_eq_true_eq]; exact ⟨fun k => ⟨c, k⟩, fun k => k.2⟩
    rw [e]; exact h
   ·rw [if_neg (by rw [fromB_f c]; decide)]
    rw [decide_eq_false (fun k => c k.1)] at h
    exact h
  ·exact h.elim
theorem ok_NotWide___init__ (T : Txt K mg C_Meter C_Ways C_Sender C_Taker C_Hand C_Terms C_RoadError C_NoPiece C_BadTerms C_NotWide C_BadText C_NotNow C_State C_Shut C_Calling C_Leaving)  : MtAt P w K mg base (CX1 P w) C_NotWide "__init__" 1 ["self", "least"] (sp_NotWide___init__ C_NotWide) := by
 refine T.d_NotWide___init__.fn sc_NotWide___init__ bd_NotWide___init__ (fun vs H Q E h => ?_) fun f cdv A outer s H vs Q E HR h => ?_
 ·unfold sp_NotWide___init__ at h; split at h <;> first | rfl | exact h.elim
 ·unfold sp_NotWide___init__ at h
  split at h
  ·rename_i e l
   refine ⟨_, (pss_one (ps_fldXQ T.x_NotWide T.xf_NotWide_least (pv 0) (pv 1))), ?_⟩
   obtain ⟨he, q⟩ := h
   exists he
   exact ⟨e, rfl, he, q⟩
  ·exact h.elim
theorem ok_are_rooms (T : Txt K mg C_Meter C_Ways C_Sender C_Taker C_Hand C_Terms C_RoadError C_NoPiece C_BadTerms C_NotWide C_BadText C_NotNow C_State C_Shut C_Calling C_Leaving)  : FnAt P w K mg base (CX1 P w) "are_rooms" 2 ["rooms"] sp_are_rooms := by
 refine T.d_are_rooms.fn sc_are_rooms bd_are_rooms (fun vs H Q E h => ?_) fun f cdv A outer s H vs Q E HR h => ?_
 ·unfold sp_are_rooms at h; split at h <;> first | rfl | exact h.elim
 ·unfold sp_are_rooms at h
  split at h
  ·rename_i p
   refine ⟨_, (pss_one (ps_ret (pe_and (pe_callBQ (call_isiB K rfl) (by rfl) T.b_isinstance bt_isinstance (pa_q (pv 0) (pa_q (pe_ty rfl T.b_tuple bt_tuple) pa_nil))) (pe_and (pe_cmpR (op_eqXK K rfl HR.units) (pe_callBQ (call_lenB K rfl) (by rfl) T.b_len bt_len (pa_q (pv 0) pa_nil)) pe_int (nomark _)) (pe_one (pe_callBQ (call_allK K rfl rfl) (by rfl) T.b_all bt_all (pa_q (pe_comp (N := (["room"] : List Str)) (nv := 1) (ix := []) rfl (cs_of (by kernel_rfl)) (pi_seqK K rfl (pv 0)) (fun _ _ _ _ _ => (pg_name (i := 0) (show ((["room"] : List Str)).Nodup by decide) rfl (Or.inl rfl))) (fun _ _ _ _ _ => pts_nil) (fun _ _ _ _ _ => (pe_fnQ (ok_is_from T) HR (by decide) rfl (pa_q (pv 0) (pa_q pe_int (pa_q (pe_cst rfl T.c_ROOM_MOST_terms) pa_nil)))))) pa_nil))))))), ?_⟩
   obtain ⟨o, t, hp, q⟩ := h
   exists hp
   refine co_tup (p := fun _ => true) (f := fun x => match x with | .int i => .bl (fromB i 1 16) | _ => .non) (SqT.of hp) (small_ok (by simp)) (fun x _ Q h => h) (fun x hx _ Q h => ?_) ?_
   ·simp only [List.mem_cons, List.not_mem_nil, or_false] at hx
    rcases hx with rfl | rfl <;> (walk_at "wps"; exact h)
   ·refine ⟨small_ok (by simp), fun l hl => ⟨[fromB o 1 16, fromB t 1 16], SqL.of upd_same, ?_⟩⟩
    have := q _ (same_upd (o := .lst [.bl (fromB o 1 16), .bl (fromB t 1 16)]) hl)
    have e : ([fromB o 1 16, fromB t 1 16].all id) = decide ((1 ≤ o ∧ o ≤ 16) ∧ 1 ≤ t ∧ t ≤ 16) := by
     rw [Bool.eq_iff_iff, decide_eq_true_eq, ← fromB_iff, ← fromB_iff]; simp
    rw [e]
    exact this
  ·exact h.elim
theorem ok_Terms___init__ (T : Txt K mg C_Meter C_Ways C_Sender C_Taker C_Hand C_Terms C_RoadError C_NoPiece C_BadTerms C_NotWide C_BadText C_NotNow C_State C_Shut C_Calling C_Leaving)    : MtAt P w K mg base (CX1 P w) C_Terms "__init__" 3 ["self", "ring", "rooms", "lag", "first", "longest"] (sp_Terms___init__ C_Terms C_BadTerms C_NotWide) := by
 refine T.d_Terms___init__.fnX sc_Terms___init__ bd_Terms___init__ (fun vs H Q E h => ?_) fun f cdv A outer s H vs Q E HR h => ?_
 ·unfold sp_Terms___init__ at h; split at h <;> first | rfl | exact h.elim
 ·unfold sp_Terms___init__ at h
  split at h
  ·rename_i x r p g f l
   refine ⟨_, (pss_cons (ps_if (PT.nox (pt_not (PW.pt (pw_and (pt_q (pe_fnQ (ok_is_from T) HR (by decide) rfl (pa_q (pv 1) (pa_q pe_int (pa_q (pe_cst rfl T.c_RING_MOST) pa_nil))))) (pw_and (pt_q (pe_fnQ (ok_are_rooms T) HR (by decide) rfl (pa_q (pv 2) pa_nil))) (pw_and1 (pt_q (pe_fnQ (ok_is_from T) HR (by decide) rfl (pa_q (pv 3) (pa_q pe_int (pa_q (pe_cst rfl T.c_LAG_MOST) pa_nil))))))))))) (pss_one (ps_raise0 T.x_BadTerms rz_fn rfl rfl rfl)) pss_nil)
 (pss_hold (pss_cons (ps_if (PT.nox (pt_not (pt_q (pe_fnQ (ok_are_waits T) HR (by decide) rfl (pa_q (pv 4) (pa_q (pv 5) pa_nil)))))) (pss_one (ps_raise0 T.x_BadTerms rz_fn rfl rfl rfl)) pss_nil)
 (pss_hold (pss_cons (PS.nox (ps_setQ (i := 6) sc_Terms___init__.nd rfl (Or.inl rfl) (pe_callBQ (call_maxB K rfl rfl) (by rfl) T.b_max bt_max (pa_q (pe_comp (N := (["room", "lag"] : List Str)) (nv := 1) (ix := [3]) rfl (cs_of (by kernel_rfl)) (pi_seqK K rfl (pv 2)) (fun _ _ _ _ _ => (pg_name (i := 0) (show ((["room", "lag"] : List Str)).Nodup by decide) rfl (Or.inl rfl))) (fun _ _ _ _ _ => pts_nil) (fun _ _ _ _ _ => (pe_fnQ (ok_need T) HR (by decide) rfl (pa_q (pv 0) (pa_q (pv 1) pa_nil))))) pa_nil))))
 (pss_hold (pss_cons (ps_if (PT.nox (pt_cmpR op_lt (pv 1) (pv 6) (nomark _))) (pss_one (ps_raiseIQ T.x_NotWide (ok_NotWide___init__ T) T.kp_NotWide HR (by decide) rz_fn rfl rfl rfl (pa_q (pv 6) pa_nil))) pss_nil)
 (pss_hold (pss_cons (PS.nox (ps_fldC (pv 0) (pv 1) T.k_Terms T.n_Terms_ring))
 (pss_cons (PS.nox (ps_fldC (pv 0) (pv 2) T.k_Terms T.n_Terms_rooms))
 (pss_cons (PS.nox (ps_fldC (pv 0) (pv 3) T.k_Terms T.n_Terms_lag))
 (pss_cons (PS.nox (ps_fldC (pv 0) (pv 4) T.k_Terms T.n_Terms_first))
 (pss_one (PS.nox (ps_fldC (pv 0) (pv 5) T.k_Terms T.n_Terms_longest))))))))))))))), ?_⟩
   obtain ⟨o, t, dx, hp, hx, q1, q2, q3⟩ := h
   generalize h_u1 : tHold _ = u1
   walk_at "wps"
   by_cases c1 : 2 ≤ r ∧ r ≤ 64
   rotate_left
   ·rw [if_neg (by rw [fromB_f c1]; decide)]; exact q1 (fun hg => c1 hg.1) H (Same.refl _)
   rw [if_pos (fromB_t c1)]
   refine ⟨o, t, hp, fun H1 S1 => ?_⟩
   by_cases c2 : (1 ≤ o ∧ o ≤ 16) ∧ 1 ≤ t ∧ t ≤ 16
   rotate_left
   ·rw [if_neg c2]; exact q1 (fun hg => c2 hg.2.1) H1 S1
   rw [if_pos c2]
   by_cases c3 : 1 ≤ g ∧ g ≤ 32
   rotate_left
   ·rw [if_pos (fromB_f c3)]; exact q1 (fun hg => c3 hg.2.2.1) H1 S1
   rw [if_neg (by rw [fromB_t c3]; decide)]
   rw [← h_u1, tHold]
   generalize h_u2 : tHold _ = u2
   walk_at "wps"
   by_cases c4 : (2 ≤ l ∧ l ≤ 64) ∧ 2 ≤ f ∧ f ≤ l
   rotate_left
   ·rw [if_pos c4]; exact q1 (fun hg => c4 hg.2.2.2) H1 S1
   rw [if_neg (not_not_intro c4)]
   have hg : good r o t g f l := ⟨c1, c2, c3, c4⟩
   have hp1 := S1 _ _ hp
   have hx1 := S1 _ _ hx
   rw [← h_u2, tHold]
   generalize h_u3 : tHold _ = u3
   walk_at "wps"
   refine co_tup (p := fun _ => true) (f := fun x => match x with | .int i => .int (needF i g) | _ => .non) (SqT.of hp1) (small_ok (by simp)) (fun x _ Q h => h) (fun x hx _ Q h => ?_) ?_
   ·simp only [List.mem_cons, List.not_mem_nil, or_false] at hx
    rcases hx with rfl | rfl <;> (walk_at "wps"; exact h)
   refine ⟨small_ok (by simp), fun l1 hl1 => ⟨[needF o g, needF t g], SqL.of upd_same, by simp, fun M hM hle => ?_⟩⟩
   have eM : M = leastF o t g := by
    have h1 := hle (needF o g) (by simp)
    have h2 := hle (needF t g) (by simp)
    simp only [List.mem_cons, List.not_mem_nil, or_false] at hM
    unfold leastF
    split <;> omega
   subst eM
   have S2 : Same H _ := fun b u e => same_upd (o := .lst ((([V.int o, V.int t] : List V).filter fun _ => true).map fun x => match x with | .int i => .int (needF i g) | _ => .non)) hl1 b u (S1 b u e)
   have hx2 := upd_old (o := .lst ((([V.int o, V.int t] : List V).filter fun _ => true).map fun x => match x with | .int i => .int (needF i g) | _ => .non)) hx1 hl1
   generalize upd H1 l1 (.lst ((([V.int o, V.int t] : List V).filter fun _ => true).map fun x => match x with | .int i => .int (needF i g) | _ => .non)) = H2 at *
   rw [← h_u3, tHold]
   generalize h_u4 : tHold _ = u4
   walk_at "wps"
   by_cases c5 : r < leastF o t g
   ·rw [if_pos c5]
    intro e he d hd
    refine ⟨_, rfl, ?_⟩
    obtain ⟨s1, s2⟩ := dropxl (C := C_NotWide) (l := [("least", .int (leastF o t g))]) S2 he hd
    exact q2 hg c5 _ d s1 s2
   rw [if_neg c5]
   rw [← h_u4, tHold]
   exists hx2
   refine q3 hg c5 _ ?_ upd_same
   exact fun b o hb hne => by rw [upd_ne hne]; exact S2 _ _ hb
  ·exact h.elim
theorem ok__law_cell_at (T : Txt K mg C_Meter C_Ways C_Sender C_Taker C_Hand C_Terms C_RoadError C_NoPiece C_BadTerms C_NotWide C_BadText C_NotNow C_State C_Shut C_Calling C_Leaving)  (a₀ : Addr) (ns : List Int) : FnAt P w K mg base (CX1 P w) "_law_cell_at" 1 ["_law_script", "_law_k"] (sp__law_cell_at K a₀ ns) := by
 refine T.d__law_cell_at.fn sc__law_cell_at bd__law_cell_at (fun vs H Q E h => ?_) fun f cdv A outer s H vs Q E HR h => ?_
 ·unfold sp__law_cell_at at h; split at h <;> first | rfl | exact h.elim
 ·unfold sp__law_cell_at at h
  split at h
  ·rename_i a k
   refine ⟨_, (pss_cons (ps_if (pt_cmpR op_lt (pv 1) (pe_callBQ (call_lenK K rfl) (by rfl) T.b_len bt_len (pa_q (pv 0) pa_nil)) (nomark _)) (pss_one (ps_ret (pe_ix (ix_K K rfl) (pv 0) (pv 1) (fun _ _ => rfl)))) pss_nil)
 (pss_one (ps_ret pe_int))), ?_⟩
   obtain ⟨rfl, hS, h0, q⟩ := h
   walk_at "wps"
   refine ⟨_, .inl hS, ?_⟩
   rw [List.length_map]
   split
   ·rename_i c; exact ixA_ints hS h0 c (q _)
   ·exact q _
  ·exact h.elim
theorem ok__law_mixed (T : Txt K mg C_Meter C_Ways C_Sender C_Taker C_Hand C_Terms C_RoadError C_NoPiece C_BadTerms C_NotWide C_BadText C_NotNow C_State C_Shut C_Calling C_Leaving)  : FnAt P w K mg base (CX1 P w) "_law_mixed" 1 ["_law_cell", "_law_k"] sp__law_mixed := by
 refine T.d__law_mixed.fn sc__law_mixed bd__law_mixed (fun vs H Q E h => ?_) fun f cdv A outer s H vs Q E HR h => ?_
 ·unfold sp__law_mixed at h; split at h <;> first | rfl | exact h.elim
 ·unfold sp__law_mixed at h
  split at h
  ·rename_i c k
   refine ⟨_, (pss_cons (ps_if (PW.pt (pw_and (pt_cmpR op_ge (pv 0) (pe_op op_shlA pe_int pe_int) (nomark _)) (pw_and1 (pt_cmpR op_gt (pe_op op_shr (pv 0) (pe_op (op_addK K rfl) pe_int (pe_op op_mul pe_int (pv 1)))) pe_int (nomark _))))) (pss_one (ps_ret (pe_op op_mod (pe_op op_shr (pv 0) (pe_op (op_addK K rfl) pe_int (pe_op op_mul pe_int (pv 1)))) pe_int))) pss_nil)
 (pss_hold (pss_cons (ps_setQ (i := 2) sc__law_mixed.nd rfl (Or.inl rfl) (pe_op (op_addK K rfl) (pe_op op_mod (pv 0) pe_int) pe_int))
 (pss_cons (ps_for PassesOwn.never rfl (pj_range1 rfl T.b_range (pa_q pe_int pa_nil)) (pg_name (i := 3) sc__law_mixed.nd rfl (Or.inl rfl)) (pss_one (ps_setQ (i := 2) sc__law_mixed.nd rfl (Or.inl rfl) (pe_op op_mod (pe_op (op_addK K rfl) (pe_op (op_addK K rfl) (pe_op op_mul (pv 2) (pv 2)) (pe_op op_mul pe_int (pv 2))) (pv 1)) pe_int))))
 (pss_one (ps_ret (pv 2))))))), ?_⟩
   obtain ⟨h0, q⟩ := h
   generalize h_u1 : tHold _ = u1
   walk_at "wps"
   have sh : CShl 1 90 := ⟨⟨by decide, by decide⟩, by decide +kernel, by decide +kernel⟩
   have tail : u1 { nx := fun _ H' => Q .non H', rt := Q } [some (.int c), some (.int k), none, none] H := by
    rw [← h_u1, tHold]
    walk_at "wps"
    refine fo_rng (lo := 0) (n := 3) (fun i σ H' => H' = H ∧ ∃ v v3, σ = [some (.int c), some (.int k), some (.int v), v3] ∧ 0 ≤ v ∧ v < 2147483647 + (if i = 0 then 48271 else 0)) ⟨rfl, _, none, rfl, by omega, by rw [if_pos rfl]; omega⟩ (fun i σ H' _ hp => ?_) (fun σ H' hp => ?_)
    ·obtain ⟨rfl, v, v3, rfl, h0, h1⟩ := hp
     walk_at "wps"
     have h2 : v < 3000000000 := by split at h1 <;> omega
     exact ⟨.inl ⟨by omega, by omega⟩, _, _, rfl, Int.emod_nonneg _ (by decide), Int.emod_lt_of_pos _ (by decide)⟩
    ·obtain ⟨rfl, v, v3, rfl, h0, h1⟩ := hp
     walk_at "wps"
     exact q v h0 (by rw [if_neg (by decide)] at h1; omega)
   refine ⟨sh, ?_⟩
   split
   ·refine ⟨by omega, ?_⟩
    split
    ·exact ⟨by omega, q _ (Int.emod_nonneg _ (by decide)) (Int.emod_lt_of_pos _ (by decide))⟩
    ·exact tail
   ·exact tail
  ·exact h.elim
theorem ok_Meter___init__ (T : Txt K mg C_Meter C_Ways C_Sender C_Taker C_Hand C_Terms C_RoadError C_NoPiece C_BadTerms C_NotWide C_BadText C_NotNow C_State C_Shut C_Calling C_Leaving)  : MtAt P w K mg base (CX1 P w) C_Meter "__init__" 1 ["self", "most"] (sp_Meter___init__ C_Meter) := by
 refine T.d_Meter___init__.fn sc_Meter___init__ bd_Meter___init__ (fun vs H Q E h => ?_) fun f cdv A outer s H vs Q E HR h => ?_
 ·unfold sp_Meter___init__ at h; split at h <;> first | rfl | exact h.elim
 ·unfold sp_Meter___init__ at h
  split at h
  ·rename_i p m
   refine ⟨_, (pss_cons (ps_fldC (pv 0) (pv 1) T.k_Meter T.n_Meter_most)
 (pss_cons (ps_fldC (pv 0) (pe_callBQ (call_minA rfl) (by rfl) T.b_min bt_min (pa_q pe_int (pa_q (pv 1) pa_nil))) T.k_Meter T.n_Meter_window)
 (pss_cons (ps_fldC (pv 0) (pv 1) T.k_Meter T.n_Meter_knee)
 (pss_one (ps_fldC (pv 0) pe_int T.k_Meter T.n_Meter_counted))))), ?_⟩
   obtain ⟨dx, hp, q⟩ := h
   exists hp
   exact q
  ·exact h.elim
theorem ok_Ways___init__ (T : Txt K mg C_Meter C_Ways C_Sender C_Taker C_Hand C_Terms C_RoadError C_NoPiece C_BadTerms C_NotWide C_BadText C_NotNow C_State C_Shut C_Calling C_Leaving)  : MtAt P w K mg base (CX1 P w) C_Ways "__init__" 1 ["self", "first", "longest"] (sp_Ways___init__ C_Ways) := by
 refine T.d_Ways___init__.fn sc_Ways___init__ bd_Ways___init__ (fun vs H Q E h => ?_) fun f cdv A outer s H vs Q E HR h => ?_
 ·unfold sp_Ways___init__ at h; split at h <;> first | rfl | exact h.elim
 ·unfold sp_Ways___init__ at h
  split at h
  ·rename_i p f l
   refine ⟨_, (pss_cons (ps_fldC (pv 0) (pv 2) T.k_Ways T.n_Ways_longest)
 (pss_cons (ps_fldC (pv 0) pe_non T.k_Ways T.n_Ways_smooth)
 (pss_cons (ps_fldC (pv 0) pe_non T.k_Ways T.n_Ways_spread)
 (pss_one (ps_fldC (pv 0) (pv 1) T.k_Ways T.n_Ways_wait))))), ?_⟩
   obtain ⟨dx, hp, q⟩ := h
   exists hp
   exact q
  ·exact h.elim
theorem ok_Ways_ran_out (T : Txt K mg C_Meter C_Ways C_Sender C_Taker C_Hand C_Terms C_RoadError C_NoPiece C_BadTerms C_NotWide C_BadText C_NotNow C_State C_Shut C_Calling C_Leaving)  : MtAt P w K mg base (CX1 P w) C_Ways "ran_out" 1 ["self"] (sp_Ways_ran_out C_Ways) := by
 refine T.d_Ways_ran_out.fn sc_Ways_ran_out bd_Ways_ran_out (fun vs H Q E h => ?_) fun f cdv A outer s H vs Q E HR h => ?_
 ·unfold sp_Ways_ran_out at h; split at h <;> first | rfl | exact h.elim
 ·unfold sp_Ways_ran_out at h
  split at h
  ·rename_i p
   refine ⟨_, (pss_one (ps_fldC (pv 0) (pe_callBQ (call_minA rfl) (by rfl) T.b_min bt_min (pa_q (pe_op op_mul pe_int (pe_fldC (pv 0) T.k_Ways T.n_Ways_wait rfl)) (pa_q (pe_fldC (pv 0) T.k_Ways T.n_Ways_longest rfl) pa_nil))) T.k_Ways T.n_Ways_wait)), ?_⟩
   obtain ⟨dx, L, s, sp, w, hp, q⟩ := h
   exists hp
   exact q
  ·exact h.elim
theorem ok_Sender___init__ (T : Txt K mg C_Meter C_Ways C_Sender C_Taker C_Hand C_Terms C_RoadError C_NoPiece C_BadTerms C_NotWide C_BadText C_NotNow C_State C_Shut C_Calling C_Leaving)    : MtAt P w K mg base (CX1 P w) C_Sender "__init__" 3 ["self", "ring", "first", "longest", "most"] (sp_Sender___init__ C_Sender C_Ways C_Meter) := by
 refine T.d_Sender___init__.fn sc_Sender___init__ bd_Sender___init__ (fun vs H Q E h => ?_) fun f cdv A outer s H vs Q E HR h => ?_
 ·unfold sp_Sender___init__ at h; split at h <;> first | rfl | exact h.elim
 ·unfold sp_Sender___init__ at h
  split at h
  ·rename_i x r f l m
   refine ⟨_, (pss_cons (ps_fldC (pv 0) (pv 1) T.k_Sender T.n_Sender_ring)
 (pss_cons (ps_fldC (pv 0) (pe_mkC T.k_Ways (ok_Ways___init__ T) HR (by decide) rfl (pa_q (pv 2) (pa_q (pv 3) pa_nil))) T.k_Sender T.n_Sender_ways)
 (pss_hold (pss_cons (ps_fldC (pv 0) (pe_mkC T.k_Meter (ok_Meter___init__ T) HR (by decide) rfl (pa_q (pv 4) pa_nil)) T.k_Sender T.n_Sender_meter)
 (pss_hold (pss_cons (ps_fldC (pv 0) (pe_lst pa_nil) T.k_Sender T.n_Sender_things)
 (pss_cons (ps_fldC (pv 0) pe_int T.k_Sender T.n_Sender_base)
 (pss_cons (ps_fldC (pv 0) pe_int T.k_Sender T.n_Sender_top)
 (pss_cons (ps_fldC (pv 0) pe_int T.k_Sender T.n_Sender_edge)
 (pss_cons (ps_fldC (pv 0) pe_non T.k_Sender T.n_Sender_clock)
 (pss_cons (ps_fldC (pv 0) pe_bl T.k_Sender T.n_Sender_base_hurried)
 (pss_hold (pss_cons (ps_fldC (pv 0) pe_dnewK T.k_Sender T.n_Sender_known_places)
 (pss_hold (pss_cons (ps_fldC (pv 0) pe_dnewK T.k_Sender T.n_Sender_first_turns)
 (pss_hold (pss_one (ps_fldC (pv 0) pe_dnewK T.k_Sender T.n_Sender_gone_again)))))))))))))))))), ?_⟩
   obtain ⟨hf, dx, hx, q⟩ := h
   generalize h_u1 : tHold _ = u1
   exists hx
   intro pw dw npw ndw new
   refine ⟨dw, rfl, ?_⟩
   have nwx : x ≠ pw := (fresh_ne npw).symm
   have ndx : x ≠ dw := (fresh_ne ndw).symm
   exists upd_ne nwx, upd_ne ndx
   obtain ⟨H1, e1⟩ : ∃ H1, H1 = upd (upd (upd (upd H x (.ins C_Sender dx (fl_Sender_1 (.int r)))) dw (.own pw)) pw (.ins C_Ways dw (fl_Ways (.int l) .non .non (.int f)))) x (.ins C_Sender dx (fl_Sender_2 (.int r) (.ref pw))) := ⟨_, rfl⟩
   rw [← e1]
   rw [upd_ne nwx.symm] at npw
   rw [upd_ne ndx.symm] at ndw
   have hx1 : H1 x = some (.ins C_Sender dx (fl_Sender_2 (.int r) (.ref pw))) := by rw [e1]; exact upd_same
   have w1 : H1 pw = some (.ins C_Ways dw (fl_Ways (.int l) .non .non (.int f))) := by rw [e1, upd_ne nwx.symm]; exact upd_same
   have b1 : But x H H1 := fun b o e n => by rw [e1, upd_ne n, upd_ne (ne_of_none e npw), upd_ne (ne_of_none e ndw), upd_ne n]; exact e
   clear e1
   rw [← h_u1, tHold]
   generalize h_u2 : tHold _ = u2
   walk_at "wps"
   intro pm dm npm ndm nem
   refine ⟨dm, rfl, ?_⟩
   have nmx : x ≠ pm := ne_of_none hx1 npm
   have ndx2 : x ≠ dm := ne_of_none hx1 ndm
   exists upd_ne nmx, upd_ne ndx2, hx1
   obtain ⟨H2, e2⟩ : ∃ H2, H2 = upd (upd (upd H1 dm (.own pm)) pm (.ins C_Meter dm (fl_Meter (.int m) (.int (MeterM.mn 2 m)) (.int m) (.int 0)))) x (.ins C_Sender dx (fl_Sender_3 (.int r) (.ref pw) (.ref pm))) := ⟨_, rfl⟩
   rw [← e2]
   have hx2 : H2 x = some (.ins C_Sender dx (fl_Sender_3 (.int r) (.ref pw) (.ref pm))) := by rw [e2]; exact upd_same
   have m2 : H2 pm = some (.ins C_Meter dm (fl_Meter (.int m) (.int (MeterM.mn 2 m)) (.int m) (.int 0))) := by rw [e2, upd_ne nmx.symm]; exact upd_same
   have b2 : But x H1 H2 := fun b o e n => by rw [e2, upd_ne n, upd_ne (ne_of_none e npm), upd_ne (ne_of_none e ndm)]; exact e
   have nwm : pw ≠ pm := ne_of_none w1 npm
   have w2 := b2 _ _ w1 nwx.symm
   clear e2
   rw [← h_u2, tHold]
   generalize h_u3 : tHold _ = u3
   walk_at "wps"
   intro pt npt
   have ntx : x ≠ pt := ne_of_none hx2 npt
   exists upd_ne ntx, hx2
   obtain ⟨H3, e3⟩ : ∃ H3, H3 = upd (upd H2 pt (.lst [])) x (.ins C_Sender dx (fl_Sender_9 (.int r) (.ref pw) (.ref pm) (.ref pt) (.int 0) (.int 0) (.int 1) .non (.bl false))) := ⟨_, rfl⟩
   rw [← e3]
   have hx3 : H3 x = some (.ins C_Sender dx (fl_Sender_9 (.int r) (.ref pw) (.ref pm) (.ref pt) (.int 0) (.int 0) (.int 1) .non (.bl false))) := by rw [e3]; exact upd_same
   have t3 : H3 pt = some (.lst []) := by rw [e3, upd_ne ntx.symm]; exact upd_same
   have b3 : But x H2 H3 := fun b o e n => by rw [e3, upd_ne n, upd_ne (ne_of_none e npt)]; exact e
   clear e3
   rw [← h_u3, tHold]
   generalize h_u4 : tHold _ = u4
   walk_at "wps"
   intro pk npk
   have nkx : x ≠ pk := ne_of_none hx3 npk
   exists upd_ne nkx, hx3
   obtain ⟨H4, e4⟩ : ∃ H4, H4 = upd (upd H3 pk (.dK [])) x (.ins C_Sender dx (fl_Sender_10 (.int r) (.ref pw) (.ref pm) (.ref pt) (.int 0) (.int 0) (.int 1) .non (.bl false) (.ref pk))) := ⟨_, rfl⟩
   rw [← e4]
   have hx4 : H4 x = some (.ins C_Sender dx (fl_Sender_10 (.int r) (.ref pw) (.ref pm) (.ref pt) (.int 0) (.int 0) (.int 1) .non (.bl false) (.ref pk))) := by rw [e4]; exact upd_same
   have k4 : H4 pk = some (.dK []) := by rw [e4, upd_ne nkx.symm]; exact upd_same
   have b4 : But x H3 H4 := fun b o e n => by rw [e4, upd_ne n, upd_ne (ne_of_none e npk)]; exact e
   clear e4
   rw [← h_u4, tHold]
   generalize h_u5 : tHold _ = u5
   walk_at "wps"
   intro pf npf
   have nfx : x ≠ pf := ne_of_none hx4 npf
   exists upd_ne nfx, hx4
   obtain ⟨H5, e5⟩ : ∃ H5, H5 = upd (upd H4 pf (.dK [])) x (.ins C_Sender dx (fl_Sender_11 (.int r) (.ref pw) (.ref pm) (.ref pt) (.int 0) (.int 0) (.int 1) .non (.bl false) (.ref pk) (.ref pf))) := ⟨_, rfl⟩
   rw [← e5]
   have hx5 : H5 x = some (.ins C_Sender dx (fl_Sender_11 (.int r) (.ref pw) (.ref pm) (.ref pt) (.int 0) (.int 0) (.int 1) .non (.bl false) (.ref pk) (.ref pf))) := by rw [e5]; exact upd_same
   have f5 : H5 pf = some (.dK []) := by rw [e5, upd_ne nfx.symm]; exact upd_same
   have b5 : But x H4 H5 := fun b o e n => by rw [e5, upd_ne n, upd_ne (ne_of_none e npf)]; exact e
   clear e5
   rw [← h_u5, tHold]
   walk_at "wps"
   intro pa npa
   have nax : x ≠ pa := ne_of_none hx5 npa
   exists upd_ne nax, hx5
   have b6 : But x H5 (upd (upd H5 pa (.dK [])) x (.ins C_Sender dx (fl_Sender (.int r) (.ref pw) (.ref pm) (.ref pt) (.int 0) (.int 0) (.int 1) .non (.bl false) (.ref pk) (.ref pf) (.ref pa)))) := fun b o e n => by rw [upd_ne n, upd_ne (ne_of_none e npa)]; exact e
   have k5 := b5 _ _ k4 nkx.symm
   have fr : ∀ b, b ∈ [pw, pm, pt, pk, pf, pa] → H b = none := fun b hb => by
    simp only [List.mem_cons, List.not_mem_nil, or_false] at hb
    have B2 : But x H H2 := fun b o e n => b2 _ _ (b1 b o e n) n
    have B3 : But x H H3 := fun b o e n => b3 _ _ (B2 b o e n) n
    have B4 : But x H H4 := fun b o e n => b4 _ _ (B3 b o e n) n
    have B5 : But x H H5 := fun b o e n => b5 _ _ (B4 b o e n) n
    rcases hb with rfl | rfl | rfl | rfl | rfl | rfl
    ·exact npw
    ·exact free_but b1 nmx npm
    ·exact free_but B2 ntx npt
    ·exact free_but B3 nkx npk
    ·exact free_but B4 nfx npf
    ·exact free_but B5 nax npa
   refine q ⟨dx, pw, pm, pt, pk, pf, pa, dw, dm⟩ _ (fun b o e n => b6 _ _ (b5 _ _ (b4 _ _ (b3 _ _ (b2 _ _ (b1 b o e n) n) n) n) n) n) fr ⟨upd_same, b6 _ _ (b5 _ _ (b4 _ _ t3 ntx.symm) ntx.symm) ntx.symm, b6 _ _ k5 nkx.symm, b6 _ _ f5 nfx.symm, by rw [upd_ne nax.symm]; exact upd_same, ⟨by show 2 ≤ l; omega, by show 2 ≤ f ∧ f ≤ l; omega, .inl ⟨rfl, rfl, b6 _ _ (b5 _ _ (b4 _ _ (b3 _ _ w2 nwx.symm) nwx.symm) nwx.symm) nwx.symm⟩⟩, ⟨b6 _ _ (b5 _ _ (b4 _ _ (b3 _ _ m2 nmx.symm) nmx.symm) nmx.symm) nmx.symm, ?_⟩, ne_of_none k4 npf, ne_of_none k5 npa, ne_of_none f5 npa, nwx, nmx, nwm⟩
   show 1 ≤ MeterM.mn 2 m ∧ MeterM.mn 2 m ≤ m ∧ (0 : Int) ≤ 0 ∧ (0 : Int) < MeterM.mn 2 m
   unfold MeterM.mn
   split <;> omega
  ·exact h.elim
theorem ok_Sender_put (T : Txt K mg C_Meter C_Ways C_Sender C_Taker C_Hand C_Terms C_RoadError C_NoPiece C_BadTerms C_NotWide C_BadText C_NotNow C_State C_Shut C_Calling C_Leaving)    : MtAt P w K mg base (CX1 P w) C_Sender "put" 1 ["self", "thing"] (sp_Sender_put C_Sender C_Ways C_Meter) := by
 refine T.d_Sender_put.fn sc_Sender_put bd_Sender_put (fun vs H Q E h => ?_) fun f cdv A outer s H vs Q E HR h => ?_
 ·unfold sp_Sender_put at h; split at h <;> first | rfl | exact h.elim
 ·unfold sp_Sender_put at h
  split at h
  ·rename_i x th
   refine ⟨_, (pss_one (ps_exprQ (pe_appendK K rfl (pe_fldC (pv 0) T.k_Sender T.n_Sender_things rfl) (pv 1)))), ?_⟩
   obtain ⟨A, z, hS, hl, q⟩ := h
   exists hS.hx, hS.ht
   refine ⟨tyV_list (SqL.of hS.ht), by rw [sizeLine_eq]; omega, q _ But.upd ?_⟩
   exact hS.row hS.ht _ z.Kn z.Fi (by simp) (by simp) upd_same (by rw [upd_ne (ne_of hS.hk hS.ht (by simp))]; exact hS.hk) (by rw [upd_ne (ne_of hS.hf hS.ht (by simp))]; exact hS.hf) (ne_of hS.ht hS.ha (by simp))
  ·exact h.elim
theorem ok_Sender_many (T : Txt K mg C_Meter C_Ways C_Sender C_Taker C_Hand C_Terms C_RoadError C_NoPiece C_BadTerms C_NotWide C_BadText C_NotNow C_State C_Shut C_Calling C_Leaving)    : MtAt P w K mg base (CX1 P w) C_Sender "many" 1 ["self"] (sp_Sender_many C_Sender C_Ways C_Meter) := by
 refine T.d_Sender_many.fn sc_Sender_many bd_Sender_many (fun vs H Q E h => ?_) fun f cdv A outer s H vs Q E HR h => ?_
 ·unfold sp_Sender_many at h; split at h <;> first | rfl | exact h.elim
 ·unfold sp_Sender_many at h
  split at h
  ·rename_i x
   refine ⟨_, (pss_one (ps_ret (pe_callBQ (call_lenB K rfl) (by rfl) T.b_len bt_len (pa_q (pe_fldC (pv 0) T.k_Sender T.n_Sender_things rfl) pa_nil)))), ?_⟩
   obtain ⟨A, z, hS, q⟩ := h
   exists hS.hx, hS.ht
   exact q
  ·exact h.elim
theorem ok_Sender_thing (T : Txt K mg C_Meter C_Ways C_Sender C_Taker C_Hand C_Terms C_RoadError C_NoPiece C_BadTerms C_NotWide C_BadText C_NotNow C_State C_Shut C_Calling C_Leaving)    : MtAt P w K mg base (CX1 P w) C_Sender "thing" 1 ["self", "place"] (sp_Sender_thing C_Sender C_Ways C_Meter) := by
 refine T.d_Sender_thing.fn sc_Sender_thing bd_Sender_thing (fun vs H Q E h => ?_) fun f cdv A outer s H vs Q E HR h => ?_
 ·unfold sp_Sender_thing at h; split at h <;> first | rfl | exact h.elim
 ·unfold sp_Sender_thing at h
  split at h
  ·rename_i x p
   refine ⟨_, (pss_one (ps_ret (pe_ix (ix_B K rfl) (pe_fldC (pv 0) T.k_Sender T.n_Sender_things rfl) (pv 1) (fun _ _ => rfl)))), ?_⟩
   obtain ⟨A, z, v, hS, hv, q⟩ := h
   exists hS.hx, hS.ht
   exact ⟨v, hv, q⟩
  ·exact h.elim
theorem ok_Taker___init__ (T : Txt K mg C_Meter C_Ways C_Sender C_Taker C_Hand C_Terms C_RoadError C_NoPiece C_BadTerms C_NotWide C_BadText C_NotNow C_State C_Shut C_Calling C_Leaving)  : MtAt P w K mg base (CX1 P w) C_Taker "__init__" 1 ["self", "ring", "room"] (sp_Taker___init__ C_Taker) := by
 refine T.d_Taker___init__.fn sc_Taker___init__ bd_Taker___init__ (fun vs H Q E h => ?_) fun f cdv A outer s H vs Q E HR h => ?_
 ·unfold sp_Taker___init__ at h; split at h <;> first | rfl | exact h.elim
 ·unfold sp_Taker___init__ at h
  split at h
  ·rename_i x r m
   refine ⟨_, (pss_cons (ps_fldC (pv 0) (pv 1) T.k_Taker T.n_Taker_ring)
 (pss_cons (ps_fldC (pv 0) (pv 2) T.k_Taker T.n_Taker_room)
 (pss_cons (ps_fldC (pv 0) pe_int T.k_Taker T.n_Taker_got)
 (pss_cons (ps_fldC (pv 0) pe_int T.k_Taker T.n_Taker_out)
 (pss_one (ps_fldC (pv 0) pe_dnewK T.k_Taker T.n_Taker_kept)))))), ?_⟩
   obtain ⟨dx, hx, q⟩ := h
   exists hx
   intro p1 h1
   have n1 : x ≠ p1 := (fresh_ne h1).symm
   exists upd_ne n1
   have k1 : H p1 = none := by rw [upd_ne n1.symm] at h1; exact h1
   refine q p1 _ k1 ?_ ⟨upd_same, ?_⟩
   ·intro b o hb hne
    rw [upd_ne hne, upd_ne (ne_of_none hb k1), upd_ne hne]; exact hb
   ·rw [upd_ne n1.symm, upd_same]
  ·exact h.elim
theorem ok_Taker_room_left (T : Txt K mg C_Meter C_Ways C_Sender C_Taker C_Hand C_Terms C_RoadError C_NoPiece C_BadTerms C_NotWide C_BadText C_NotNow C_State C_Shut C_Calling C_Leaving)  : MtAt P w K mg base (CX1 P w) C_Taker "room_left" 1 ["self"] (sp_Taker_room_left C_Taker) := by
 refine T.d_Taker_room_left.fn sc_Taker_room_left bd_Taker_room_left (fun vs H Q E h => ?_) fun f cdv A outer s H vs Q E HR h => ?_
 ·unfold sp_Taker_room_left at h; split at h <;> first | rfl | exact h.elim
 ·unfold sp_Taker_room_left at h
  split at h
  ·rename_i x
   refine ⟨_, (pss_one (ps_ret (pe_op op_sub (pe_op (op_addK K rfl) (pe_fldC (pv 0) T.k_Taker T.n_Taker_out rfl) (pe_fldC (pv 0) T.k_Taker T.n_Taker_room rfl)) (pe_fldC (pv 0) T.k_Taker T.n_Taker_got rfl)))), ?_⟩
   obtain ⟨dx, pk, z, hT, q⟩ := h
   exists hT.hx
   exact q
  ·exact h.elim
theorem ok_Taker_answer (T : Txt K mg C_Meter C_Ways C_Sender C_Taker C_Hand C_Terms C_RoadError C_NoPiece C_BadTerms C_NotWide C_BadText C_NotNow C_State C_Shut C_Calling C_Leaving)  : MtAt P w K mg base (CX1 P w) C_Taker "answer" 2 ["self"] (sp_Taker_answer C_Taker) := by
 refine T.d_Taker_answer.fn sc_Taker_answer bd_Taker_answer (fun vs H Q E h => ?_) fun f cdv A outer s H vs Q E HR h => ?_
 ·unfold sp_Taker_answer at h; split at h <;> first | rfl | exact h.elim
 ·unfold sp_Taker_answer at h
  split at h
  ·rename_i x
   refine ⟨_, (pss_cons (ps_setc (i := 1) (N := (["step", "self"] : List Str)) (nv := 1) (ix := [0]) rfl sc_Taker_answer.nd rfl rfl (cs_of (by kernel_rfl)) (pj_range2 rfl T.b_range (pa_q pe_int (pa_q (pe_mtC0 (pv 0) T.k_Taker (ok_Taker_room_left T) HR (by decide)) pa_nil))) (fun _ _ _ _ _ => (pg_name (i := 0) (show ((["step", "self"] : List Str)).Nodup by decide) rfl (Or.inl rfl))) (fun _ _ _ _ _ => (pts_one (pt_cmp (pc_dI HR.units (pe_op (op_addK K rfl) (pe_fldC (pv 1) T.k_Taker T.n_Taker_got rfl) (pv 0)) (pe_fldC (pv 1) T.k_Taker T.n_Taker_kept rfl)) (nomarkQ rfl)))) (fun _ _ _ _ _ => (pv 0)))
 (pss_one (ps_ret (pe_tup (pa_q (pe_op op_mod (pe_fldC (pv 0) T.k_Taker T.n_Taker_got rfl) (pe_fldC (pv 0) T.k_Taker T.n_Taker_ring rfl)) (pa_q (pe_mtC0 (pv 0) T.k_Taker (ok_Taker_room_left T) HR (by decide)) (pa_q (pe_callTyQ (call_tupleK K rfl) (by rfl) T.b_tuple bt_tuple (pa_q (pv 1) pa_nil)) pa_nil))))))), ?_⟩
   obtain ⟨dx, pk, z, hT, hR, hr, q⟩ := h
   exists hT.hx
   refine ⟨dx, pk, z, hT, by omega, ?_⟩
   refine co_rng (p := fun v => match v with | .int i => (valV z.D (ik (z.g + i))).isSome | _ => false) (f := fun v => v) (small_ok (by omega)) ?_ ?_ ?_
   ·intro i hi Q' q'
    exists hT.hx, hT.hD
    exact q'
   ·intro i hi _ Q' q'
    walk_at "wps"
    exact q'
   rw [held_eq]
   have hlen : (heldL z.D z.g (z.o + z.M - z.g - 1).toNat).length ≤ 1000 := by
    unfold heldL
    rw [List.length_map]
    refine Nat.le_trans (List.length_filter_le _ _) ?_
    rw [List.length_range]; omega
   refine ⟨small_ok (by rw [List.length_map]; exact hlen), fun l hl => ?_⟩
   generalize hhs : heldL z.D z.g (z.o + z.M - z.g - 1).toNat = hs at *
   have T1 := hT.same (same_upd (o := .lst (hs.map V.int)) hl)
   have l1 := upd_same (H := H) (a := l) (o := .lst (hs.map V.int))
   have S1 := same_upd (o := .lst (hs.map V.int)) hl
   generalize upd H l (.lst (hs.map V.int)) = H1 at *
   exists T1.hx
   refine ⟨hR, dx, pk, z, T1, _, .inl ⟨SqL.of l1, fun t ht p hp => ?_⟩⟩
   exact q p t hs _ (fun b o e => upd_old (upd_old (S1 b o e) ht) hp) rfl (free_of (fun b o e => upd_old (S1 b o e) ht) hp) (free_of S1 ht) (upd_old upd_same hp) upd_same
  ·exact h.elim
theorem ok_NotNow___init__ (T : Txt K mg C_Meter C_Ways C_Sender C_Taker C_Hand C_Terms C_RoadError C_NoPiece C_BadTerms C_NotWide C_BadText C_NotNow C_State C_Shut C_Calling C_Leaving)  : MtAt P w K mg base (CX1 P w) C_NotNow "__init__" 1 ["self", "state", "wish"] (sp_NotNow___init__ C_NotNow) := by
 refine T.d_NotNow___init__.fn sc_NotNow___init__ bd_NotNow___init__ (fun vs H Q E h => ?_) fun f cdv A outer s H vs Q E HR h => ?_
 ·unfold sp_NotNow___init__ at h; split at h <;> first | rfl | exact h.elim
 ·unfold sp_NotNow___init__ at h
  split at h
  ·rename_i e v u
   refine ⟨_, (pss_cons (ps_fldXQ T.x_NotNow T.xf_NotNow_state (pv 0) (pv 1))
 (pss_one (ps_fldX2 T.x_NotNow T.xf_NotNow_wish (pv 0) (pv 2)))), ?_⟩
   obtain ⟨he, q⟩ := h
   exists he
   refine ⟨e, rfl, he, fun d hd => ?_⟩
   have nd : d ≠ e := fun z => by rw [z, he] at hd; cases hd
   refine ⟨e, rfl, d, [(("state" : Str), v)], upd_same, by rw [upd_ne nd]; exact upd_same, rfl, (show 1 < 1000 by decide), ?_⟩
   have e2 : upd (upd (upd H d (.xd [("state", v)])) e (.ext (exN e C_NotNow (some d)))) d (.xd ([(("state" : Str), v)] ++ [(("wish" : Str), u)])) = upd (upd H d (.xd [("state", v), ("wish", u)])) e (.ext (exN e C_NotNow (some d))) := by
    funext z
    by_cases c1 : z = d
    ·subst c1
     rw [upd_same, upd_ne nd, upd_same]; rfl
    ·rw [upd_ne c1]
     by_cases c2 : z = e
     ·subst c2; rw [upd_same, upd_same]
     ·rw [upd_ne c2, upd_ne c1, upd_ne c2, upd_ne c1]
   rw [e2]
   exact q d hd
  ·exact h.elim
theorem ok_Shut_name (T : Txt K mg C_Meter C_Ways C_Sender C_Taker C_Hand C_Terms C_RoadError C_NoPiece C_BadTerms C_NotWide C_BadText C_NotNow C_State C_Shut C_Calling C_Leaving)  : MtAt P w K mg base (CX1 P w) C_Shut "name" 1 ["self"] sp_Shut_name := by
 refine T.d_Shut_name.fn sc_Shut_name bd_Shut_name (fun vs H Q E h => ?_) fun f cdv A outer s H vs Q E HR h => ?_
 ·unfold sp_Shut_name at h; split at h <;> first | rfl | exact h.elim
 ·unfold sp_Shut_name at h
  split at h
  ·rename_i x
   refine ⟨_, (pss_one (ps_ret pe_str)), ?_⟩
   walk_at "wps"
   exact h
  ·exact h.elim
theorem ok_Calling_name (T : Txt K mg C_Meter C_Ways C_Sender C_Taker C_Hand C_Terms C_RoadError C_NoPiece C_BadTerms C_NotWide C_BadText C_NotNow C_State C_Shut C_Calling C_Leaving)  : MtAt P w K mg base (CX1 P w) C_Calling "name" 1 ["self"] sp_Calling_name := by
 refine T.d_Calling_name.fn sc_Calling_name bd_Calling_name (fun vs H Q E h => ?_) fun f cdv A outer s H vs Q E HR h => ?_
 ·unfold sp_Calling_name at h; split at h <;> first | rfl | exact h.elim
 ·unfold sp_Calling_name at h
  split at h
  ·rename_i x
   refine ⟨_, (pss_one (ps_ret pe_str)), ?_⟩
   walk_at "wps"
   exact h
  ·exact h.elim
theorem ok_Leaving_name (T : Txt K mg C_Meter C_Ways C_Sender C_Taker C_Hand C_Terms C_RoadError C_NoPiece C_BadTerms C_NotWide C_BadText C_NotNow C_State C_Shut C_Calling C_Leaving)  : MtAt P w K mg base (CX1 P w) C_Leaving "name" 1 ["self"] sp_Leaving_name := by
 refine T.d_Leaving_name.fn sc_Leaving_name bd_Leaving_name (fun vs H Q E h => ?_) fun f cdv A outer s H vs Q E HR h => ?_
 ·unfold sp_Leaving_name at h; split at h <;> first | rfl | exact h.elim
 ·unfold sp_Leaving_name at h
  split at h
  ·rename_i x
   refine ⟨_, (pss_one (ps_ret pe_str)), ?_⟩
   walk_at "wps"
   exact h
  ·exact h.elim
theorem ok_Shut_wish_begin (T : Txt K mg C_Meter C_Ways C_Sender C_Taker C_Hand C_Terms C_RoadError C_NoPiece C_BadTerms C_NotWide C_BadText C_NotNow C_State C_Shut C_Calling C_Leaving)    : MtAt P w K mg base (CX1 P w) C_Shut "wish_begin" 1 ["self"] (sp_Shut_wish_begin C_Shut C_Calling C_Leaving) := by
 refine T.d_Shut_wish_begin.fn sc_Shut_wish_begin bd_Shut_wish_begin (fun vs H Q E h => ?_) fun f cdv A outer s H vs Q E HR h => ?_
 ·unfold sp_Shut_wish_begin at h; split at h <;> first | rfl | exact h.elim
 ·unfold sp_Shut_wish_begin at h
  split at h
  ·rename_i x
   refine ⟨_, (pss_one (ps_ret (pe_mkN T.k_Calling T.ni_Calling rfl))), ?_⟩
   walk_at "wps"
   exact fun y dx ny nd _ => h y _ (same_new ny nd) ⟨_, dx, upd_same, .tail _ (.head _)⟩
  ·exact h.elim
theorem ok_Calling_wish_end (T : Txt K mg C_Meter C_Ways C_Sender C_Taker C_Hand C_Terms C_RoadError C_NoPiece C_BadTerms C_NotWide C_BadText C_NotNow C_State C_Shut C_Calling C_Leaving)    : MtAt P w K mg base (CX1 P w) C_Calling "wish_end" 1 ["self"] (sp_Calling_wish_end C_Shut C_Calling C_Leaving) := by
 refine T.d_Calling_wish_end.fn sc_Calling_wish_end bd_Calling_wish_end (fun vs H Q E h => ?_) fun f cdv A outer s H vs Q E HR h => ?_
 ·unfold sp_Calling_wish_end at h; split at h <;> first | rfl | exact h.elim
 ·unfold sp_Calling_wish_end at h
  split at h
  ·rename_i x
   refine ⟨_, (pss_one (ps_ret (pe_mkN T.k_Leaving T.ni_Leaving rfl))), ?_⟩
   walk_at "wps"
   exact fun y dx ny nd _ => h y _ (same_new ny nd) ⟨_, dx, upd_same, .tail _ (.tail _ (.head _))⟩
  ·exact h.elim
theorem ok_Calling_may_put (T : Txt K mg C_Meter C_Ways C_Sender C_Taker C_Hand C_Terms C_RoadError C_NoPiece C_BadTerms C_NotWide C_BadText C_NotNow C_State C_Shut C_Calling C_Leaving)  : MtAt P w K mg base (CX1 P w) C_Calling "may_put" 1 ["self"] sp_Calling_may_put := by
 refine T.d_Calling_may_put.fn sc_Calling_may_put bd_Calling_may_put (fun vs H Q E h => ?_) fun f cdv A outer s H vs Q E HR h => ?_
 ·unfold sp_Calling_may_put at h; split at h <;> first | rfl | exact h.elim
 ·unfold sp_Calling_may_put at h
  split at h
  ·rename_i x
   refine ⟨_, (pss_one (ps_ret pe_bl)), ?_⟩
   walk_at "wps"
   exact h
  ·exact h.elim
theorem ok_State_may_put (T : Txt K mg C_Meter C_Ways C_Sender C_Taker C_Hand C_Terms C_RoadError C_NoPiece C_BadTerms C_NotWide C_BadText C_NotNow C_State C_Shut C_Calling C_Leaving) {C : Addr} (F : MethAt K C "may_put" "State.may_put" s_State_may_put)  : MtAt P w K mg base (CX1 P w) C "may_put" 1 ["self"] sp_State_may_put := by
 refine F.fn sc_State_may_put bd_State_may_put (fun vs H Q E h => ?_) fun f cdv A outer s H vs Q E HR h => ?_
 ·unfold sp_State_may_put at h; split at h <;> first | rfl | exact h.elim
 ·unfold sp_State_may_put at h
  split at h
  ·rename_i x
   refine ⟨_, (pss_one (ps_ret pe_bl)), ?_⟩
   walk_at "wps"
   exact h
  ·exact h.elim
theorem st_cases {C_Shut C_Calling C_Leaving : Addr} {C : Addr} {nm : Str} (h : (C, nm) ∈ tbl C_Shut C_Calling C_Leaving) : (C = C_Shut ∧ nm = "shut") ∨ (C = C_Calling ∧ nm = "calling") ∨ (C = C_Leaving ∧ nm = "leaving") := by
 simpa [tbl] using h
theorem ok_V_name (T : Txt K mg C_Meter C_Ways C_Sender C_Taker C_Hand C_Terms C_RoadError C_NoPiece C_BadTerms C_NotWide C_BadText C_NotNow C_State C_Shut C_Calling C_Leaving) : VmAt P w K mg base (CX1 P w) "name" 1 (sp_V_name C_Shut C_Calling C_Leaving) := by
 intro x H Q E h
 unfold sp_V_name at h
 split at h
 rotate_left
 ·exact h.elim
 rename_i x e
 obtain ⟨nm, hst, q⟩ := h
 have hst0 := hst
 obtain ⟨C, dx, hx, hm⟩ := hst
 injection e with e1 _
 rcases st_cases hm with ⟨rfl, rfl⟩ | ⟨rfl, rfl⟩ | ⟨rfl, rfl⟩
 ·exact ⟨x, _, dx, _, _, _, _, e1, hx, rfl, by decide, T.k_Shut.cl, ok_Shut_name T, q⟩
 ·exact ⟨x, _, dx, _, _, _, _, e1, hx, rfl, by decide, T.k_Calling.cl, ok_Calling_name T, q⟩
 ·exact ⟨x, _, dx, _, _, _, _, e1, hx, rfl, by decide, T.k_Leaving.cl, ok_Leaving_name T, q⟩
theorem ok_State_wish_begin (T : Txt K mg C_Meter C_Ways C_Sender C_Taker C_Hand C_Terms C_RoadError C_NoPiece C_BadTerms C_NotWide C_BadText C_NotNow C_State C_Shut C_Calling C_Leaving) {C : Addr} (F : MethAt K C "wish_begin" "State.wish_begin" s_State_wish_begin)     : MtAt P w K mg base (CX1 P w) C "wish_begin" 3 ["self"] (sp_State_wish_begin C_NotNow C_Shut C_Calling C_Leaving) := by
 refine F.fnX sc_State_wish_begin bd_State_wish_begin (fun vs H Q E h => ?_) fun f cdv A outer s H vs Q E HR h => ?_
 ·unfold sp_State_wish_begin at h; split at h <;> first | rfl | exact h.elim
 ·unfold sp_State_wish_begin at h
  split at h
  ·rename_i x
   refine ⟨_, (pss_one (ps_raiseIQ T.x_NotNow (ok_NotNow___init__ T) T.kp_NotNow HR (by decide) rz_fn rfl rfl rfl (pa_q (pe_mtV (pv 0) (ok_V_name T) HR (by decide)) (pa_q pe_str pa_nil)))), ?_⟩
   obtain ⟨nm, hst, q⟩ := h
   walk_at "wps"
   refine ⟨nm, hst, fun e he d hd => ?_⟩
   obtain ⟨s1, s2⟩ := dropxl (C := C_NotNow) (l := [("state", .str nm), ("wish", .str "begin")]) (Same.refl H) he hd
   exact ⟨_, rfl, q _ d s1 s2⟩
  ·exact h.elim
theorem ok_State_wish_end (T : Txt K mg C_Meter C_Ways C_Sender C_Taker C_Hand C_Terms C_RoadError C_NoPiece C_BadTerms C_NotWide C_BadText C_NotNow C_State C_Shut C_Calling C_Leaving) {C : Addr} (F : MethAt K C "wish_end" "State.wish_end" s_State_wish_end)     : MtAt P w K mg base (CX1 P w) C "wish_end" 3 ["self"] (sp_State_wish_end C_NotNow C_Shut C_Calling C_Leaving) := by
 refine F.fnX sc_State_wish_end bd_State_wish_end (fun vs H Q E h => ?_) fun f cdv A outer s H vs Q E HR h => ?_
 ·unfold sp_State_wish_end at h; split at h <;> first | rfl | exact h.elim
 ·unfold sp_State_wish_end at h
  split at h
  ·rename_i x
   refine ⟨_, (pss_one (ps_raiseIQ T.x_NotNow (ok_NotNow___init__ T) T.kp_NotNow HR (by decide) rz_fn rfl rfl rfl (pa_q (pe_mtV (pv 0) (ok_V_name T) HR (by decide)) (pa_q pe_str pa_nil)))), ?_⟩
   obtain ⟨nm, hst, q⟩ := h
   walk_at "wps"
   refine ⟨nm, hst, fun e he d hd => ?_⟩
   obtain ⟨s1, s2⟩ := dropxl (C := C_NotNow) (l := [("state", .str nm), ("wish", .str "end")]) (Same.refl H) he hd
   exact ⟨_, rfl, q _ d s1 s2⟩
  ·exact h.elim
--SPLIT
theorem ok_V_wish_begin (T : Txt K mg C_Meter C_Ways C_Sender C_Taker C_Hand C_Terms C_RoadError C_NoPiece C_BadTerms C_NotWide C_BadText C_NotNow C_State C_Shut C_Calling C_Leaving) : VmAt P w K mg base (CX1 P w) "wish_begin" 3 (sp_V_wish_begin C_NotNow C_Shut C_Calling C_Leaving) := by
 intro x H Q E h
 unfold sp_V_wish_begin at h
 split at h
 rotate_left
 ·exact h.elim
 rename_i x e
 obtain ⟨nm, hst, q⟩ := h
 have hst0 := hst
 obtain ⟨C, dx, hx, hm⟩ := hst
 injection e with e1 _
 rcases st_cases hm with ⟨rfl, rfl⟩ | ⟨rfl, rfl⟩ | ⟨rfl, rfl⟩
 ·exact ⟨x, _, dx, _, _, _, _, e1, hx, rfl, by decide, T.k_Shut.cl, ok_Shut_wish_begin T, q.1 _ (by decide +kernel)⟩
 ·exact ⟨x, _, dx, _, _, _, _, e1, hx, rfl, by decide, T.k_Calling.cl, ok_State_wish_begin T T.di_Calling_wish_begin, ⟨_, hst0, q.2 (by decide +kernel)⟩⟩
 ·exact ⟨x, _, dx, _, _, _, _, e1, hx, rfl, by decide, T.k_Leaving.cl, ok_State_wish_begin T T.di_Leaving_wish_begin, ⟨_, hst0, q.2 (by decide +kernel)⟩⟩
theorem ok_V_wish_end (T : Txt K mg C_Meter C_Ways C_Sender C_Taker C_Hand C_Terms C_RoadError C_NoPiece C_BadTerms C_NotWide C_BadText C_NotNow C_State C_Shut C_Calling C_Leaving) : VmAt P w K mg base (CX1 P w) "wish_end" 3 (sp_V_wish_end C_NotNow C_Shut C_Calling C_Leaving) := by
 intro x H Q E h
 unfold sp_V_wish_end at h
 split at h
 rotate_left
 ·exact h.elim
 rename_i x e
 obtain ⟨nm, hst, q⟩ := h
 have hst0 := hst
 obtain ⟨C, dx, hx, hm⟩ := hst
 injection e with e1 _
 rcases st_cases hm with ⟨rfl, rfl⟩ | ⟨rfl, rfl⟩ | ⟨rfl, rfl⟩
 ·exact ⟨x, _, dx, _, _, _, _, e1, hx, rfl, by decide, T.k_Shut.cl, ok_State_wish_end T T.di_Shut_wish_end, ⟨_, hst0, q.2 (by decide +kernel)⟩⟩
 ·exact ⟨x, _, dx, _, _, _, _, e1, hx, rfl, by decide, T.k_Calling.cl, ok_Calling_wish_end T, q.1 _ (by decide +kernel)⟩
 ·exact ⟨x, _, dx, _, _, _, _, e1, hx, rfl, by decide, T.k_Leaving.cl, ok_State_wish_end T T.di_Leaving_wish_end, ⟨_, hst0, q.2 (by decide +kernel)⟩⟩
theorem ok_V_may_put (T : Txt K mg C_Meter C_Ways C_Sender C_Taker C_Hand C_Terms C_RoadError C_NoPiece C_BadTerms C_NotWide C_BadText C_NotNow C_State C_Shut C_Calling C_Leaving) : VmAt P w K mg base (CX1 P w) "may_put" 1 (sp_V_may_put C_Shut C_Calling C_Leaving) := by
 intro x H Q E h
 unfold sp_V_may_put at h
 split at h
 rotate_left
 ·exact h.elim
 rename_i x e
 obtain ⟨nm, hst, q⟩ := h
 have hst0 := hst
 obtain ⟨C, dx, hx, hm⟩ := hst
 injection e with e1 _
 rcases st_cases hm with ⟨rfl, rfl⟩ | ⟨rfl, rfl⟩ | ⟨rfl, rfl⟩
 ·exact ⟨x, _, dx, _, _, _, _, e1, hx, rfl, by decide, T.k_Shut.cl, ok_State_may_put T T.di_Shut_may_put, q⟩
 ·exact ⟨x, _, dx, _, _, _, _, e1, hx, rfl, by decide, T.k_Calling.cl, ok_Calling_may_put T, q⟩
 ·exact ⟨x, _, dx, _, _, _, _, e1, hx, rfl, by decide, T.k_Leaving.cl, ok_State_may_put T T.di_Leaving_may_put, q⟩
theorem ok_is_text (T : Txt K mg C_Meter C_Ways C_Sender C_Taker C_Hand C_Terms C_RoadError C_NoPiece C_BadTerms C_NotWide C_BadText C_NotNow C_State C_Shut C_Calling C_Leaving)  : FnAt P w K mg base (CX1 P w) "is_text" 1 ["text"] sp_is_text := by
 refine T.d_is_text.fn sc_is_text bd_is_text (fun vs H Q E h => ?_) fun f cdv A outer s H vs Q E HR h => ?_
 ·unfold sp_is_text at h; split at h <;> first | rfl | exact h.elim
 ·unfold sp_is_text at h
  split at h
  ·rename_i z
   refine ⟨_, (pss_one (ps_ret (pe_and (pe_callBQ (call_isiB K rfl) (by rfl) T.b_isinstance bt_isinstance (pa_q (pv 0) (pa_q (pe_ty rfl T.b_str bt_str) pa_nil))) (pe_and (pe_chain op_le op_le pe_int (pe_callBQ (call_lenB K rfl) (by rfl) T.b_len bt_len (pa_q (pv 0) pa_nil)) (pe_cst rfl T.c_TEXT_MOST)) (pe_one (pe_callBQ (call_allK K rfl rfl) (by rfl) T.b_all bt_all (pa_q (pe_comp (N := (["sign"] : List Str)) (nv := 1) (ix := []) rfl (cs_of (by kernel_rfl)) (pi_seqK K rfl (pv 0)) (fun _ _ _ _ _ => (pg_name (i := 0) (show ((["sign"] : List Str)).Nodup by decide) rfl (Or.inl rfl))) (fun _ _ _ _ _ => pts_nil) (fun _ _ _ _ _ => (pe_cmpR (op_inK K rfl) (pv 0) (pe_cst rfl T.c_SIGNS) (nomarkQ rfl)))) pa_nil))))))), ?_⟩
   obtain ⟨hz, q⟩ := h
   walk_at "wps"
   refine ⟨small_ok hz, ?_⟩
   by_cases c1 : 1 ≤ (z.length : Int)
   rotate_left
   ·rw [if_neg c1]
    have e : textB z = false := by unfold textB; rw [decide_eq_false (by omega)]; rfl
    rw [← e]; exact q H (Same.refl _)
   rw [if_pos c1]
   by_cases c2 : (z.length : Int) ≤ 60
   rotate_left
   ·rw [if_neg c2]
    have e : textB z = false := by unfold textB; rw [decide_eq_false (show ¬ z.length ≤ 60 by omega), Bool.and_false]; rfl
    rw [← e]; exact q H (Same.refl _)
   rw [if_pos c2]
   refine co_str (p := fun _ => true) (f := fun x => .bl (inS x)) (by rw [sizeLine_eq]; omega) (fun _ _ Q h => h) (fun x hx _ Q hq => ?_) ?_
   ·obtain ⟨n, _, rfl⟩ := List.mem_map.mp hx
    walk_at "wps"
    exact hq
   have e4 : (signsV z).length = z.length := by simp [signsV, Str.length]
   have e1 : ((signsV z).filter fun _ => true).map (fun x => V.bl (inS x)) = ((signsV z).map inS).map V.bl := by
    rw [List.filter_eq_self.mpr (fun _ _ => rfl), List.map_map]; rfl
   rw [e1]
   refine ⟨by rw [List.length_map, List.length_map, e4, sizeLine_eq]; omega, fun p hp => ⟨(signsV z).map inS, SqL.of upd_same, ?_⟩⟩
   have e2 : ((signsV z).map inS).all id = textB z := by
    unfold textB
    rw [decide_eq_true (show 1 ≤ z.length by omega), decide_eq_true (show z.length ≤ 60 by omega), List.all_map]; rfl
   rw [e2]
   exact q _ (same_upd hp)
  ·exact h.elim
theorem ok_Hand___init__ (T : Txt K mg C_Meter C_Ways C_Sender C_Taker C_Hand C_Terms C_RoadError C_NoPiece C_BadTerms C_NotWide C_BadText C_NotNow C_State C_Shut C_Calling C_Leaving)          : MtAt P w K mg base (CX1 P w) C_Hand "__init__" 5 ["self", "side", "terms"] (sp_Hand___init__ C_Hand C_Taker C_Sender C_Ways C_Meter C_Shut C_Calling C_Leaving C_Terms) := by
 refine T.d_Hand___init__.fn sc_Hand___init__ bd_Hand___init__ (fun vs H Q E h => ?_) fun f cdv A outer s H vs Q E HR h => ?_
 ·unfold sp_Hand___init__ at h; split at h <;> first | rfl | exact h.elim
 ·unfold sp_Hand___init__ at h
  split at h
  ·rename_i x side tm
   refine ⟨_, (pss_cons (ps_fldC (pv 0) (pv 1) T.k_Hand T.n_Hand_side)
 (pss_cons (ps_fldC (pv 0) (pe_fldC (pv 2) T.k_Terms T.n_Terms_ring rfl) T.k_Hand T.n_Hand_ring)
 (pss_cons (ps_fldC (pv 0) (pe_mkC T.k_Taker (ok_Taker___init__ T) HR (by decide) rfl (pa_q (pe_fldC (pv 2) T.k_Terms T.n_Terms_ring rfl) (pa_q (pe_ix (ix_B K rfl) (pe_fldC (pv 2) T.k_Terms T.n_Terms_rooms rfl) (pv 1) (fun _ _ => rfl)) pa_nil))) T.k_Hand T.n_Hand_taker)
 (pss_hold (pss_cons (ps_fldC (pv 0) (pe_mkC T.k_Sender (ok_Sender___init__ T) HR (by decide) rfl (pa_q (pe_fldC (pv 2) T.k_Terms T.n_Terms_ring rfl) (pa_q (pe_fldC (pv 2) T.k_Terms T.n_Terms_first rfl) (pa_q (pe_fldC (pv 2) T.k_Terms T.n_Terms_longest rfl) (pa_q (pe_ix (ix_B K rfl) (pe_fldC (pv 2) T.k_Terms T.n_Terms_rooms rfl) (pe_op op_sub pe_int (pv 1)) (fun _ _ => rfl)) pa_nil))))) T.k_Hand T.n_Hand_sender)
 (pss_hold (pss_cons (ps_fldC (pv 0) (pe_mkN T.k_Shut T.ni_Shut rfl) T.k_Hand T.n_Hand_state)
 (pss_cons (ps_fldC (pv 0) pe_bl T.k_Hand T.n_Hand_answer_due)
 (pss_one (ps_fldC (pv 0) (pe_lst pa_nil) T.k_Hand T.n_Hand_end_places)))))))))), ?_⟩
   obtain ⟨dx, r, o, t, g, f, l, hx, ⟨dt, p, htm, hp⟩, hg, hs, q⟩ := h
   have n1 : tm ≠ x := ne_of htm hx (by simp [fl_Terms])
   have n2 : p ≠ x := ne_of hp hx (by simp)
   obtain ⟨g1, ⟨g2, g3⟩, g4, g5, g6⟩ := hg
   have own : atI [V.int o, V.int t] side = some (.int (if side = 0 then o else t)) ∧ atI [V.int o, V.int t] (1 - side) = some (.int (if side = 0 then t else o)) := by
    rcases hs with rfl | rfl
    ·exact ⟨by rw [if_pos rfl]; exact atI_0, by rw [if_pos rfl]; exact atI_1⟩
    ·exact ⟨by rw [if_neg (by decide)]; exact atI_1, by rw [if_neg (by decide)]; exact atI_0⟩
   have ob : (1 ≤ (if side = 0 then o else t) ∧ (if side = 0 then o else t) ≤ 16) ∧ 1 ≤ (if side = 0 then t else o) := by split <;> omega
   generalize (if side = 0 then o else t) = mo at *
   generalize (if side = 0 then t else o) = mt at *
   generalize h_u1 : tHold _ = u1
   exists hx, htm, upd_ne n1, upd_ne n2, hp, own.1
   intro tk dk ntk ndk nek
   refine ⟨dk, rfl, fun kd H1 nkd b1 t1 => ?_⟩
   have xtk : x ≠ tk := fresh_ne ntk |>.symm
   have xdk : x ≠ dk := fresh_ne ndk |>.symm
   have x1 : H1 x = some (.ins C_Hand dx (fl_Hand_2 (.int side) (.int r))) := b1 _ _ (by rw [upd_ne xtk, upd_ne xdk, upd_same]) xtk
   have B1 : ∀ b u, H b = some u → b ≠ x → H1 b = some u := fun b u e n => by
    have e1 : upd H x (.ins C_Hand dx (fl_Hand_2 (.int side) (.int r))) b = some u := by rw [upd_ne n]; exact e
    exact b1 _ _ (by rw [upd_ne (ne_of_none e1 ntk), upd_ne (ne_of_none e1 ndk)]; exact e1) (ne_of_none e1 ntk)
   have ftk : H tk = none := by rw [upd_ne xtk.symm] at ntk; exact ntk
   have fkd : H kd = none ∧ kd ≠ x := by
    have k1 : kd ≠ tk := fresh_ne nkd
    rw [upd_ne k1] at nkd
    have k2 : kd ≠ dk := fresh_ne nkd
    rw [upd_ne k2] at nkd
    have k3 : kd ≠ x := fresh_ne nkd
    rw [upd_ne k3] at nkd
    exact ⟨nkd, k3⟩
   clear b1 nkd
   have htm1 := B1 _ _ htm n1
   have hp1 := B1 _ _ hp n2
   exists x1
   have X1 : But x H (upd H1 x (.ins C_Hand dx (fl_Hand_3 (.int side) (.int r) (.ref tk)))) := fun b u e n => by rw [upd_ne n]; exact B1 b u e n
   have x2 : upd H1 x (.ins C_Hand dx (fl_Hand_3 (.int side) (.int r) (.ref tk))) x = some (.ins C_Hand dx (fl_Hand_3 (.int side) (.int r) (.ref tk))) := upd_same
   have t2 : TkAt C_Taker (upd H1 x (.ins C_Hand dx (fl_Hand_3 (.int side) (.int r) (.ref tk)))) tk dk kd ⟨r, mo, 0, 0, []⟩ := ⟨by rw [upd_ne xtk.symm]; exact t1.hx, by rw [upd_ne fkd.2]; exact t1.hD⟩
   have htm2 : upd H1 x (.ins C_Hand dx (fl_Hand_3 (.int side) (.int r) (.ref tk))) tm = some (.ins C_Terms dt (fl_Terms (.int r) (.ref p) (.int g) (.int f) (.int l))) := by rw [upd_ne n1]; exact htm1
   have hp2 : upd H1 x (.ins C_Hand dx (fl_Hand_3 (.int side) (.int r) (.ref tk))) p = some (.tup [.int o, .int t]) := by rw [upd_ne n2]; exact hp1
   generalize upd H1 x (.ins C_Hand dx (fl_Hand_3 (.int side) (.int r) (.ref tk))) = H2 at *
   clear x1 t1 B1 htm1 hp1
   rw [← h_u1, tHold]
   generalize h_u2 : tHold _ = u2
   exists htm2, hp2, own.2
   intro sd ds nsd nds nes
   refine ⟨⟨by omega, by omega, by omega⟩, ds, rfl, fun S H3 b3 fr3 s3 => ?_⟩
   have xsd : x ≠ sd := ne_of_none x2 nsd
   have B3 : ∀ b u, H2 b = some u → H3 b = some u := fun b u e => b3 _ _ (by rw [upd_ne (ne_of_none e nsd), upd_ne (ne_of_none e nds)]; exact e) (ne_of_none e nsd)
   have fr2 : ∀ b, b ∈ [S.pw, S.pm, S.pt, S.pk, S.pf, S.pa] → H2 b = none ∧ b ≠ sd := fun b hb => by
    have k0 := fr3 b hb
    have k1 : b ≠ sd := fresh_ne k0
    rw [upd_ne k1] at k0
    have k2 : b ≠ ds := fresh_ne k0
    rw [upd_ne k2] at k0
    exact ⟨k0, k1⟩
   clear b3 fr3
   have x3 := B3 _ _ x2
   have t3 : TkAt C_Taker H3 tk dk kd ⟨r, mo, 0, 0, []⟩ := ⟨B3 _ _ t2.hx, B3 _ _ t2.hD⟩
   exists x3
   have X3 : But x H (upd H3 x (.ins C_Hand dx (fl_Hand_4 (.int side) (.int r) (.ref tk) (.ref sd)))) := fun b u e n => by rw [upd_ne n]; exact B3 _ _ (X1 b u e n)
   have x4 : upd H3 x (.ins C_Hand dx (fl_Hand_4 (.int side) (.int r) (.ref tk) (.ref sd))) x = some (.ins C_Hand dx (fl_Hand_4 (.int side) (.int r) (.ref tk) (.ref sd))) := upd_same
   have xS : ∀ b, b ∈ [S.pw, S.pm, S.pt, S.pk, S.pf, S.pa] → b ≠ x := fun b hb e => by have := (fr2 b hb).1; rw [e, x2] at this; cases this
   have k4 : Kp [x] H3 (upd H3 x (.ins C_Hand dx (fl_Hand_4 (.int side) (.int r) (.ref tk) (.ref sd)))) := Kp.one
   have s4 : SdAt C_Sender C_Ways C_Meter (upd H3 x (.ins C_Hand dx (fl_Hand_4 (.int side) (.int r) (.ref tk) (.ref sd)))) sd S _ := s3.kp k4 (fun b hb m => by
    rw [List.mem_singleton] at m
    rcases List.mem_cons.mp hb with e | hb
    ·exact xsd (m.symm.trans e)
    ·exact xS b hb m) (fun t l e m => by rw [List.mem_singleton.mp m, x3] at e; cases e)
   have t4 : TkAt C_Taker (upd H3 x (.ins C_Hand dx (fl_Hand_4 (.int side) (.int r) (.ref tk) (.ref sd)))) tk dk kd ⟨r, mo, 0, 0, []⟩ := ⟨by rw [upd_ne xtk.symm]; exact t3.hx, by rw [upd_ne fkd.2]; exact t3.hD⟩
   generalize upd H3 x (.ins C_Hand dx (fl_Hand_4 (.int side) (.int r) (.ref tk) (.ref sd))) = H4 at *
   rw [← h_u2, tHold]
   walk_at "wps"
   intro st dst nst ndst nest
   have S5 : Same H4 _ := same_new (C := C_Shut) (fs := []) nst ndst
   have st5 : StAt (tbl C_Shut C_Calling C_Leaving) (upd (upd H4 dst (.own st)) st (.ins C_Shut dst [])) st "shut" := ⟨_, _, upd_same, .head _⟩
   have x5 := S5 _ _ x4
   have s5 := s4.same S5
   have t5 := t4.same S5
   have X5 : But x H _ := fun b u e n => S5 _ _ (X3 b u e n)
   generalize upd (upd H4 dst (.own st)) st (.ins C_Shut dst []) = H5 at *
   exists x5
   intro pe npe
   have xpe : x ≠ pe := (fresh_ne npe).symm
   exists upd_ne xpe
   have npe5 : H5 pe = none := by rw [upd_ne xpe.symm] at npe; exact npe
   have nod : (foot x ⟨dx, tk, dk, kd, sd, S, st, pe⟩).Nodup := by
    have n_tk : tk ≠ x := xtk.symm
    have in2 : ∀ {b : Addr} {u : HO}, H2 b = some u → b ∉ [S.pw, S.pm, S.pt, S.pk, S.pf, S.pa] ∧ b ≠ sd := fun {b u} e => ⟨(fun m => by have := (fr2 b m).1; rw [e] at this; cases this), ne_of_none e nsd⟩
    have pe_ne : ∀ {b : Addr} {u : HO}, H5 b = some u → b ≠ pe := fun e => ne_of_none e npe5
    obtain ⟨em, _⟩ := s5.ms
    obtain ⟨_, _, ew⟩ := s5.ws.ins
    have kx := in2 x2
    have kt := in2 t2.hx
    have kk := in2 t2.hD
    have sdS : sd ∉ [S.pw, S.pm, S.pt, S.pk, S.pf, S.pa] := fun m => (fr2 sd m).2 rfl
    have m1 : S.pm ≠ S.pt := ne_of em s5.ht (by simp)
    have m2 : S.pm ≠ S.pk := ne_of em s5.hk (by simp)
    have m3 : S.pm ≠ S.pf := ne_of em s5.hf (by simp)
    have m4 : S.pm ≠ S.pa := ne_of em s5.ha (by simp)
    have w1 : S.pw ≠ S.pt := ne_of ew s5.ht (by simp)
    have w2 : S.pw ≠ S.pk := ne_of ew s5.hk (by simp)
    have w3 : S.pw ≠ S.pf := ne_of ew s5.hf (by simp)
    have w4 : S.pw ≠ S.pa := ne_of ew s5.ha (by simp)
    have v1 : S.pt ≠ S.pk := ne_of s5.ht s5.hk (by simp)
    have v2 : S.pt ≠ S.pf := ne_of s5.ht s5.hf (by simp)
    have v3 : S.pt ≠ S.pa := ne_of s5.ht s5.ha (by simp)
    simp only [List.mem_cons, List.not_mem_nil, or_false, not_or] at kx kt kk sdS
    simp only [foot, List.nodup_cons, List.mem_cons, List.not_mem_nil, or_false, not_or, List.nodup_nil, and_true, not_false_eq_true]
    have tkd : tk ≠ kd := t2.n1.symm
    exact ⟨⟨xtk, fkd.2.symm, xsd, kx.1.1, kx.1.2.1, kx.1.2.2.1, kx.1.2.2.2.1, kx.1.2.2.2.2.1, kx.1.2.2.2.2.2, xpe⟩,
     ⟨tkd, kt.2, kt.1.1, kt.1.2.1, kt.1.2.2.1, kt.1.2.2.2.1, kt.1.2.2.2.2.1, kt.1.2.2.2.2.2, pe_ne t5.hx⟩,
     ⟨kk.2, kk.1.1, kk.1.2.1, kk.1.2.2.1, kk.1.2.2.2.1, kk.1.2.2.2.2.1, kk.1.2.2.2.2.2, pe_ne t5.hD⟩,
     ⟨sdS.1, sdS.2.1, sdS.2.2.1, sdS.2.2.2.1, sdS.2.2.2.2.1, sdS.2.2.2.2.2, pe_ne s5.hx⟩,
     ⟨s5.wm, w1, w2, w3, w4, pe_ne ew⟩, ⟨m1, m2, m3, m4, pe_ne em⟩, ⟨v1, v2, v3, pe_ne s5.ht⟩, ⟨s5.kf, s5.ka, pe_ne s5.hk⟩, ⟨s5.fa, pe_ne s5.hf⟩, pe_ne s5.ha⟩
   have kF : Kp [x] H5 (upd (upd (upd H5 x (.ins C_Hand dx (fl_Hand_6 (.int side) (.int r) (.ref tk) (.ref sd) (.ref st) (.bl false)))) pe (.lst [])) x (.ins C_Hand dx (fl_Hand (.int side) (.int r) (.ref tk) (.ref sd) (.ref st) (.bl false) (.ref pe)))) := fun b u e n => by
    rw [List.mem_singleton] at n
    rw [upd_ne n, upd_ne (ne_of_none e npe5), upd_ne n]; exact e
   refine q ⟨dx, tk, dk, kd, sd, S, st, pe⟩ _ (fun b u e n => kF b u (X5 b u e n) (fun m => n (List.mem_singleton.mp m))) (fun b hb => ?_) ⟨upd_same, ⟨kF _ _ t5.hx (fun m => xtk (List.mem_singleton.mp m).symm), kF _ _ t5.hD (fun m => fkd.2 (List.mem_singleton.mp m))⟩, s5.kp kF (fun b hb m => ?_) (fun t l e m => ?_), ?_, ?_, nod⟩
   ·simp only [foot, List.tail_cons, List.mem_cons, List.not_mem_nil, or_false] at hb
    rcases hb with e | e | e | e | e | e | e | e | e | e
    ·rw [e]; exact ftk
    ·rw [e]; exact fkd.1
    ·rw [e]; exact free_but X1 xsd nsd
    ·rw [e]; exact free_but X1 (xS _ (by simp)).symm (fr2 _ (by simp)).1
    ·rw [e]; exact free_but X1 (xS _ (by simp)).symm (fr2 _ (by simp)).1
    ·rw [e]; exact free_but X1 (xS _ (by simp)).symm (fr2 _ (by simp)).1
    ·rw [e]; exact free_but X1 (xS _ (by simp)).symm (fr2 _ (by simp)).1
    ·rw [e]; exact free_but X1 (xS _ (by simp)).symm (fr2 _ (by simp)).1
    ·rw [e]; exact free_but X1 (xS _ (by simp)).symm (fr2 _ (by simp)).1
    ·rw [e]; exact free_but X5 xpe npe5
   ·rw [List.mem_singleton] at m
    rcases List.mem_cons.mp hb with e | hb
    ·exact xsd (m.symm.trans e)
    ·exact xS b hb m
   ·rw [List.mem_singleton.mp m, x5] at e; cases e
   ·obtain ⟨C, d, e, hm⟩ := st5
    exact ⟨C, d, kF _ _ e (fun m => by have m' : st = x := List.mem_singleton.mp m; rw [m', x5] at e; injection e with e; injection e with _ _ e; simp [fl_Hand_4] at e), hm⟩
   ·rw [upd_ne xpe.symm, upd_same]; rfl
  ·exact h.elim
theorem ok_Hand_name (T : Txt K mg C_Meter C_Ways C_Sender C_Taker C_Hand C_Terms C_RoadError C_NoPiece C_BadTerms C_NotWide C_BadText C_NotNow C_State C_Shut C_Calling C_Leaving)         : MtAt P w K mg base (CX1 P w) C_Hand "name" 2 ["self"] (sp_Hand_name C_Hand C_Taker C_Sender C_Ways C_Meter C_Shut C_Calling C_Leaving) := by
 refine T.d_Hand_name.fn sc_Hand_name bd_Hand_name (fun vs H Q E h => ?_) fun f cdv A outer s H vs Q E HR h => ?_
 ·unfold sp_Hand_name at h; split at h <;> first | rfl | exact h.elim
 ·unfold sp_Hand_name at h
  split at h
  ·rename_i x
   refine ⟨_, (pss_one (ps_ret (pe_mtV (pe_fldC (pv 0) T.k_Hand T.n_Hand_state rfl) (ok_V_name T) HR (by decide)))), ?_⟩
   obtain ⟨A, z, hH, q⟩ := h
   exists hH.hx
   exact ⟨_, hH.st, q⟩
  ·exact h.elim
theorem ok_Hand_quiet (T : Txt K mg C_Meter C_Ways C_Sender C_Taker C_Hand C_Terms C_RoadError C_NoPiece C_BadTerms C_NotWide C_BadText C_NotNow C_State C_Shut C_Calling C_Leaving)         : MtAt P w K mg base (CX1 P w) C_Hand "quiet" 2 ["self"] (sp_Hand_quiet C_Hand C_Taker C_Sender C_Ways C_Meter C_Shut C_Calling C_Leaving) := by
 refine T.d_Hand_quiet.fn sc_Hand_quiet bd_Hand_quiet (fun vs H Q E h => ?_) fun f cdv A outer s H vs Q E HR h => ?_
 ·unfold sp_Hand_quiet at h; split at h <;> first | rfl | exact h.elim
 ·unfold sp_Hand_quiet at h
  split at h
  ·rename_i x
   refine ⟨_, (pss_one (ps_ret (pe_and (pe_chain (op_eqXK K rfl HR.units) (op_eqXK K rfl HR.units) (pe_fldC (pe_fldC (pv 0) T.k_Hand T.n_Hand_sender rfl) T.k_Sender T.n_Sender_base rfl) (pe_fldC (pe_fldC (pv 0) T.k_Hand T.n_Hand_sender rfl) T.k_Sender T.n_Sender_top rfl) (pe_mtC0 (pe_fldC (pv 0) T.k_Hand T.n_Hand_sender rfl) T.k_Sender (ok_Sender_many T) HR (by decide))) (pe_one (pe_not (pe_fldC (pv 0) T.k_Hand T.n_Hand_answer_due rfl)))))), ?_⟩
   obtain ⟨A, z, hH, q⟩ := h
   exists hH.hx, hH.sd.hx
   by_cases c1 : z.sd.b = z.sd.t
   ·rw [if_pos c1]
    refine ⟨_, _, hH.sd, ?_⟩
    rw [decide_eq_true c1, Bool.true_and] at q
    by_cases c2 : z.sd.t = (z.sd.T.length : Int)
    ·rw [if_pos c2]; rw [decide_eq_true c2, Bool.true_and] at q; exact q
    ·rw [if_neg c2]; rw [decide_eq_false c2, Bool.false_and] at q; exact q
   ·rw [if_neg c1]; rw [decide_eq_false c1, Bool.false_and, Bool.false_and] at q; exact q
  ·exact h.elim
theorem ok_Hand_begin (T : Txt K mg C_Meter C_Ways C_Sender C_Taker C_Hand C_Terms C_RoadError C_NoPiece C_BadTerms C_NotWide C_BadText C_NotNow C_State C_Shut C_Calling C_Leaving)           : MtAt P w K mg base (CX1 P w) C_Hand "begin" 4 ["self"] (sp_Hand_begin C_Hand C_Taker C_Sender C_Ways C_Meter C_Shut C_Calling C_Leaving C_NotNow K) := by
 refine T.d_Hand_begin.fnX sc_Hand_begin bd_Hand_begin (fun vs H Q E h => ?_) fun f cdv A outer s H vs Q E HR h => ?_
 ·unfold sp_Hand_begin at h; split at h <;> first | rfl | exact h.elim
 ·unfold sp_Hand_begin at h
  split at h
  ·rename_i x
   refine ⟨_, (pss_cons (ps_fldC (pv 0) (pe_mtVE (pe_fldC (pv 0) T.k_Hand T.n_Hand_state rfl) (ok_V_wish_begin T) HR (by decide) rz_fn rfl) T.k_Hand T.n_Hand_state)
 (pss_one (PS.nox (ps_exprQ (pe_mtC (pe_fldC (pv 0) T.k_Hand T.n_Hand_sender rfl) T.k_Sender (ok_Sender_put T) HR (by decide) (pa_q (pe_tcstK K rfl rfl T.c_BEGIN) pa_nil)))))), ?_⟩
   obtain ⟨A, z, hH, hT, q1, q2⟩ := h
   exists hH.hx
   refine ⟨_, hH.st, fun nx hn y H1 S1 s1 => ?_, q2⟩
   have h1 := hH.same S1
   exists h1.hx
   have h2 := h1.own s1 z.due
   have k2 : Kp (foot x A) H (upd H1 x (.ins C_Hand A.dx (fl_Hand (.int z.side) (.int z.R) (.ref A.tk) (.ref A.sd) (.ref y) (.bl z.due) (.ref A.pe)))) := (Kp.of S1).trans (Kp.upd (by simp [foot]))
   generalize upd H1 x (.ins C_Hand A.dx (fl_Hand (.int z.side) (.int z.R) (.ref A.tk) (.ref A.sd) (.ref y) (.bl z.due) (.ref A.pe))) = H2 at *
   exists h2.sd.hx
   exact fun a ha _ => ⟨_, _, h2.sd, hT, fun H3 b3 s3 => q1 nx hn a y H3 ha (k2.trans (Kp.but b3 (by simp [foot]))) (h2.sender (But.fr7 b3) s3)⟩
  ·exact h.elim
theorem ok_Hand_end (T : Txt K mg C_Meter C_Ways C_Sender C_Taker C_Hand C_Terms C_RoadError C_NoPiece C_BadTerms C_NotWide C_BadText C_NotNow C_State C_Shut C_Calling C_Leaving)           : MtAt P w K mg base (CX1 P w) C_Hand "end" 4 ["self"] (sp_Hand_end C_Hand C_Taker C_Sender C_Ways C_Meter C_Shut C_Calling C_Leaving C_NotNow K) := by
 refine T.d_Hand_end.fnX sc_Hand_end bd_Hand_end (fun vs H Q E h => ?_) fun f cdv A outer s H vs Q E HR h => ?_
 ·unfold sp_Hand_end at h; split at h <;> first | rfl | exact h.elim
 ·unfold sp_Hand_end at h
  split at h
  ·rename_i x
   refine ⟨_, (pss_cons (ps_fldC (pv 0) (pe_mtVE (pe_fldC (pv 0) T.k_Hand T.n_Hand_state rfl) (ok_V_wish_end T) HR (by decide) rz_fn rfl) T.k_Hand T.n_Hand_state)
 (pss_hold (pss_cons (PS.nox (ps_exprQ (pe_appendK K rfl (pe_fldC (pv 0) T.k_Hand T.n_Hand_end_places rfl) (pe_mtC0 (pe_fldC (pv 0) T.k_Hand T.n_Hand_sender rfl) T.k_Sender (ok_Sender_many T) HR (by decide)))))
 (pss_one (PS.nox (ps_exprQ (pe_mtC (pe_fldC (pv 0) T.k_Hand T.n_Hand_sender rfl) T.k_Sender (ok_Sender_put T) HR (by decide) (pa_q (pe_tcstK K rfl rfl T.c_END) pa_nil)))))))), ?_⟩
   obtain ⟨A, z, hH, hT, he, q1, q2⟩ := h
   generalize h_u1 : tHold _ = u1
   exists hH.hx
   refine ⟨_, hH.st, fun nx hn y H1 S1 s1 => ?_, q2⟩
   have h1 := hH.same S1
   exists h1.hx
   have h2 := h1.own s1 z.due
   have k2 : Kp (foot x A) H (upd H1 x (.ins C_Hand A.dx (fl_Hand (.int z.side) (.int z.R) (.ref A.tk) (.ref A.sd) (.ref y) (.bl z.due) (.ref A.pe)))) := (Kp.of S1).trans (Kp.upd (by simp [foot]))
   generalize upd H1 x (.ins C_Hand A.dx (fl_Hand (.int z.side) (.int z.R) (.ref A.tk) (.ref A.sd) (.ref y) (.bl z.due) (.ref A.pe))) = H2 at *
   rw [← h_u1, tHold]
   exists h2.hx, h2.sd.hx
   refine ⟨tyV_list (SqL.of h2.he), _, _, h2.sd, _, h2.he, by rw [List.length_map, sizeLine_eq]; show z.ends.length < _; omega, ?_⟩
   have h3 := h2.ends (l := z.ends ++ [(z.sd.T.length : Int)])
   rw [List.map_append] at h3
   show ∃ dx fs, upd H2 A.pe (.lst (z.ends.map V.int ++ [V.int z.sd.T.length])) x = some (HO.ins C_Hand dx fs) ∧ _
   have k3 : Kp (foot x A) H (upd H2 A.pe (.lst (z.ends.map V.int ++ [V.int z.sd.T.length]))) := k2.trans (Kp.upd (by simp [foot]))
   replace h3 : HandAt C_Hand C_Taker C_Sender C_Ways C_Meter (tbl C_Shut C_Calling C_Leaving) (upd H2 A.pe (.lst (z.ends.map V.int ++ [V.int z.sd.T.length]))) x { A with st := y } { z with nm := nx, ends := z.ends ++ [(z.sd.T.length : Int)] } := h3
   generalize upd H2 A.pe (.lst (z.ends.map V.int ++ [V.int z.sd.T.length])) = H3 at *
   exists h3.hx, h3.sd.hx
   exact fun a ha _ => ⟨_, _, h3.sd, hT, fun H4 b4 s4 => q1 nx hn a y H4 ha (k3.trans (Kp.but b4 (by simp [foot]))) (h3.sender (But.fr7 b4) s4)⟩
  ·exact h.elim
theorem ok_Hand_put (T : Txt K mg C_Meter C_Ways C_Sender C_Taker C_Hand C_Terms C_RoadError C_NoPiece C_BadTerms C_NotWide C_BadText C_NotNow C_State C_Shut C_Calling C_Leaving)           : MtAt P w K mg base (CX1 P w) C_Hand "put" 3 ["self", "text"] (sp_Hand_put C_Hand C_Taker C_Sender C_Ways C_Meter C_Shut C_Calling C_Leaving C_NotNow C_BadText) := by
 refine T.d_Hand_put.fnX sc_Hand_put bd_Hand_put (fun vs H Q E h => ?_) fun f cdv A outer s H vs Q E HR h => ?_
 ·unfold sp_Hand_put at h; split at h <;> first | rfl | exact h.elim
 ·unfold sp_Hand_put at h
  split at h
  ·rename_i x t
   refine ⟨_, (pss_cons (ps_if (PT.nox (pt_not (pt_q (pe_fnQ (ok_is_text T) HR (by decide) rfl (pa_q (pv 1) pa_nil))))) (pss_one (ps_raise0 T.x_BadText rz_fn rfl rfl rfl)) pss_nil)
 (pss_hold (pss_cons (ps_if (PT.nox (pt_not (pt_q (pe_mtV (pe_fldC (pv 0) T.k_Hand T.n_Hand_state rfl) (ok_V_may_put T) HR (by decide))))) (pss_one (ps_raiseIQ T.x_NotNow (ok_NotNow___init__ T) T.kp_NotNow HR (by decide) rz_fn rfl rfl rfl (pa_q (pe_mtC0 (pv 0) T.k_Hand (ok_Hand_name T) HR (by decide)) (pa_q pe_str pa_nil)))) pss_nil)
 (pss_hold (pss_one (PS.nox (ps_for PassesOwn.never rfl (pj_range3 rfl T.b_range (pa_q pe_int (pa_q (pe_callBQ (call_lenB K rfl) (by rfl) T.b_len bt_len (pa_q (pv 1) pa_nil)) (pa_q (pe_cst rfl T.c_SIGNS_MOST) pa_nil)))) (pg_name (i := 2) sc_Hand_put.nd rfl (Or.inl rfl)) (pss_one (ps_exprQ (pe_mtC (pe_fldC (pv 0) T.k_Hand T.n_Hand_sender rfl) T.k_Sender (ok_Sender_put T) HR (by decide) (pa_q (pe_tup (pa_q pe_str (pa_q (pe_slice (sl_K K rfl) (pv 1) (po_some (pv 2)) (po_some (pe_op (op_addK K rfl) (pv 2) (pe_cst rfl T.c_SIGNS_MOST)))) pa_nil))) pa_nil))))))))))), ?_⟩
   obtain ⟨A, z, hH, hT, ht, q1, q2, q3⟩ := h
   generalize h_u1 : tHold _ = u1
   walk_at "wps"
   refine ⟨ht, fun H1 S1 => ?_⟩
   cases e1 : textB t
   ·rw [if_pos rfl]
    exact q1 e1 H1 S1
   rw [if_neg (by decide)]
   have h1 := hH.same S1
   rw [← h_u1, tHold]
   generalize h_u2 : tHold _ = u2
   exists h1.hx
   refine ⟨_, h1.st, ?_⟩
   cases e2 : mayB z.nm
   ·rw [if_pos rfl]
    refine ⟨A, z, h1, fun e he d hd => ⟨_, rfl, ?_⟩⟩
    obtain ⟨s1, s2⟩ := dropxl (C := C_NotNow) (l := [("state", .str z.nm), ("wish", .str "put")]) S1 he hd
    exact q2 e1 e2 _ d s1 s2
   rw [if_neg (by decide)]
   have l60 : t.length ≤ 60 := by
    unfold textB at e1
    simp only [Bool.and_eq_true, decide_eq_true_eq] at e1
    exact e1.1.2
   rw [← h_u2, tHold]
   walk_at "wps"
   refine ⟨small_ok ht, ⟨by omega, by omega⟩, ?_⟩
   rw [show rcount 0 (t.length : Int) 4 = (t.length + 3) / 4 by unfold rcount Builtin.Range.rangeSize; rw [if_pos (by decide)]; split <;> omega]
   refine fo_rngS (fun k σ H' => (∃ v2, σ = [some (.ref x), some (.str t), v2]) ∧ Kp (foot x A) H H' ∧ ∃ vs, HandAt C_Hand C_Taker C_Sender C_Ways C_Meter (tbl C_Shut C_Calling C_Leaving) H' x A { z with sd := { z.sd with T := z.sd.T ++ vs } } ∧ Paired (fun v s => ThV H' v "signs" s) vs ((List.range k).map (chunk t))) ⟨⟨_, rfl⟩, Kp.of S1, [], by rw [List.append_nil]; exact h1, .nil⟩ (fun k σ H' hk hp => ?_) (fun σ H' hp => ?_)
   ·obtain ⟨⟨v2, rfl⟩, kk, vs, hh, pp⟩ := hp
    exists hh.hx, hh.sd.hx
    refine ⟨small_ok ht, fun p hp => ?_⟩
    rw [show Txt.slice t (some (0 + (k : Int) * 4)) (some (0 + (k : Int) * 4 + 4)) = chunk t k by unfold chunk; rw [show (0 : Int) + (k : Int) * 4 = ((4 * k : Nat) : Int) by omega]; rfl]
    have h2 := hh.same (same_upd (o := .tup [.str "signs", .str (chunk t k)]) hp)
    have s2 := same_upd (o := .tup [.str "signs", .str (chunk t k)]) hp
    have e2' := upd_same (H := H') (a := p) (o := .tup [.str "signs", .str (chunk t k)])
    generalize upd H' p (.tup [.str "signs", .str (chunk t k)]) = H3 at *
    have lv : vs.length ≤ 15 := by rw [pr_len pp, List.length_map, List.length_range]; omega
    refine ⟨_, _, h2.sd, by show (z.sd.T ++ vs).length < 1000; rw [List.length_append]; omega, fun H4 b4 s4 => ⟨⟨_, rfl⟩, (kk.trans (Kp.of s2)).trans (Kp.but b4 (by simp [foot])), vs ++ [.ref p], ?_, ?_⟩⟩
    ·have h4 := h2.sender (But.fr7 b4) s4
     rw [← List.append_assoc]
     exact h4
    ·rw [List.range_succ, List.map_append]
     have tup : ∀ {q : Addr} {l : List V}, H3 q = some (.tup l) → H4 q = some (.tup l) := fun e => b4 _ _ e (ne_of e h2.sd.ht (by simp))
     refine pr_app (pr_imp pp fun v s hv => ?_) (.cons ⟨p, rfl, tup e2'⟩ .nil)
     obtain ⟨q, rfl, hq⟩ := hv
     exact ⟨q, rfl, tup (s2 _ _ hq)⟩
   ·obtain ⟨⟨v2, rfl⟩, kk, vs, hh, pp⟩ := hp
    exact q3 e1 e2 vs H' kk hh pp
  ·exact h.elim
theorem ok__law_terms (T : Txt K mg C_Meter C_Ways C_Sender C_Taker C_Hand C_Terms C_RoadError C_NoPiece C_BadTerms C_NotWide C_BadText C_NotNow C_State C_Shut C_Calling C_Leaving)  : FnAt P w K mg base (CX1 P w) "_law_terms" 5 ["_law_cell", "_law_other"] (sp__law_terms C_Terms) := by
 refine T.d__law_terms.fn sc__law_terms bd__law_terms (fun vs H Q E h => ?_) fun f cdv A outer s H vs Q E HR h => ?_
 ·unfold sp__law_terms at h; split at h <;> first | rfl | exact h.elim
 ·unfold sp__law_terms at h
  split at h
  ·rename_i c n
   refine ⟨_, (pss_cons (ps_setQ (i := 2) sc__law_terms.nd rfl (Or.inl rfl) (pe_tup (pa_q (pe_op (op_addK K rfl) pe_int (pe_op op_mod (pv 0) pe_int)) (pa_q (pe_op (op_addK K rfl) pe_int (pe_op op_mod (pe_op op_fdiv (pv 0) pe_int) pe_int)) pa_nil))))
 (pss_cons (ps_setQ (i := 3) sc__law_terms.nd rfl (Or.inr rfl) (pe_op (op_addK K rfl) pe_int (pe_op op_mod (pe_op op_fdiv (pv 0) pe_int) pe_int)))
 (pss_hold (pss_mid (ps_if (pt_cmpR op_gt (pe_op op_mod (pe_op op_fdiv (pv 0) pe_int) pe_int) pe_int (nomark _)) (pss_cons (ps_setQ (i := 2) sc__law_terms.nd rfl (Or.inl rfl) (pe_tup (pa_q (pe_op (op_addK K rfl) pe_int (pe_op op_mod (pv 0) pe_int)) (pa_q (pe_op (op_addK K rfl) pe_int (pe_op op_mod (pe_op op_fdiv (pv 0) pe_int) pe_int)) pa_nil))))
 (pss_one (ps_setQ (i := 3) sc__law_terms.nd rfl (Or.inr rfl) (pe_op (op_addK K rfl) pe_int (pe_op op_mod (pe_op op_fdiv (pv 0) pe_int) pe_int))))) pss_nil)
 (pss_hold (pss_cons (ps_setQ (i := 4) sc__law_terms.nd rfl (Or.inl rfl) (pe_callBQ (call_maxB K rfl rfl) (by rfl) T.b_max bt_max (pa_q (pe_op (op_addK K rfl) (pe_lst (pa_q (pe_op (op_addK K rfl) pe_int (pe_op op_fdiv (pv 3) pe_int)) pa_nil)) (pe_comp (N := (["_law_room", "_law_lag"] : List Str)) (nv := 1) (ix := [3]) rfl (cs_of (by kernel_rfl)) (pi_seqK K rfl (pv 2)) (fun _ _ _ _ _ => (pg_name (i := 0) (show ((["_law_room", "_law_lag"] : List Str)).Nodup by decide) rfl (Or.inl rfl))) (fun _ _ _ _ _ => (pts_one (pt_cmpR op_gt (pv 0) pe_int (nomark _)))) (fun _ _ _ _ _ => (pe_op op_sub (pe_op (op_addK K rfl) (pe_op op_mul pe_int (pv 0)) (pv 1)) pe_int)))) pa_nil)))
 (pss_hold (pss_cons (ps_setQ (i := 5) sc__law_terms.nd rfl (Or.inl rfl) (pe_op (op_addK K rfl) pe_int (pe_op op_mod (pv 1) pe_int)))
 (pss_hold (pss_mid (ps_if (pt_cmpR op_gt (pe_op op_mod (pe_op op_fdiv (pv 1) pe_int) pe_int) pe_int (nomark _)) (pss_one (ps_setQ (i := 5) sc__law_terms.nd rfl (Or.inl rfl) (pe_op (op_addK K rfl) pe_int (pe_op op_mod (pv 1) pe_int)))) pss_nil)
 (pss_hold (pss_cons (ps_setQ (i := 6) sc__law_terms.nd rfl (Or.inl rfl) (pe_op (op_addK K rfl) (pv 4) (pe_op op_mod (pe_op op_fdiv (pv 1) pe_int) (pe_op op_sub pe_int (pv 4)))))
 (pss_hold (pss_one (ps_ret (pe_mkC T.k_Terms (ok_Terms___init__ T) HR (by decide) rfl (pa_q (pv 6) (pa_q (pv 2) (pa_q (pv 3) (pa_q (pv 5) (pa_q (pe_op (op_addK K rfl) (pv 5) (pe_op op_mod (pe_op op_fdiv (pv 1) pe_int) (pe_op op_sub pe_int (pv 5)))) pa_nil))))))))))))))))))))), ?_⟩
   generalize h_u1 : tHold _ = u1
   walk_at "wps"
   have S0 : Same H H := Same.refl H
   intro p0 n_p0
   have e_p0 := upd_same (H := H) (a := p0) (o := (.tup [.int (1 + c % 16), .int (1 + c / 16 % 16)]))
   have s_p0 := same_upd (H := H) (o := (.tup [.int (1 + c % 16), .int (1 + c / 16 % 16)])) n_p0
   replace S0 := S0.trans s_p0
   generalize upd H p0 ((.tup [.int (1 + c % 16), .int (1 + c / 16 % 16)])) = H1 at *
   rw [← h_u1, tHold]
   generalize h_u2 : tHold _ = u2
   refine ⟨fun σ' H' => ∃ p o t g, σ' = [some (.int c), some (.int n), some (.ref p), some (.int g), none, none, none] ∧ Same H H' ∧ H' p = some (.tup [.int o, .int t]) ∧ (1 ≤ o ∧ o ≤ 16) ∧ (1 ≤ t ∧ t ≤ 16) ∧ (1 ≤ g ∧ g ≤ 32), ?_, ?_⟩
   ·walk_at "wps"
    split
    ·intro p1 hp1
     exact ⟨p1, _, _, _, rfl, S0.trans (same_upd hp1), upd_same, by omega, by omega, by omega⟩
    ·exact ⟨p0, _, _, _, rfl, S0, e_p0, by omega, by omega, by omega⟩
   rintro σ' H2 ⟨p, o, t, g, rfl, S2, hp, bo, bt, bg⟩
   rw [← h_u2, tHold]
   generalize h_u3 : tHold _ = u3
   walk_at "wps"
   intro p3 n_p3
   have e_p3 := upd_same (H := H2) (a := p3) (o := (.lst [.int (2 + g / 2)]))
   have s_p3 := same_upd (H := H2) (o := (.lst [.int (2 + g / 2)])) n_p3
   replace hp := s_p3 _ _ hp
   replace S2 := S2.trans s_p3
   generalize upd H2 p3 ((.lst [.int (2 + g / 2)])) = H3 at *
   refine co_tup (p := fun x => match x with | .int i => decide (1 < i) | _ => false) (f := fun x => match x with | .int i => .int (2 * i + g - 1) | _ => .non) (SqT.of hp) (small_ok (by simp)) (fun x hx Q h => ?_) (fun x hx _ Q h => ?_) ?_
   ·simp only [List.mem_cons, List.not_mem_nil, or_false] at hx
    rcases hx with rfl | rfl <;> (walk_at "wps"; exact h)
   ·simp only [List.mem_cons, List.not_mem_nil, or_false] at hx
    rcases hx with rfl | rfl <;> (walk_at "wps"; exact h)
   obtain ⟨ns, en, ln, n1, n2, n3⟩ : ∃ ns : List Int, List.map (fun x => match x with | V.int i => V.int (2 * i + g - 1) | _ => V.non) (List.filter (fun x => match x with | V.int i => decide (1 < i) | _ => false) [V.int o, V.int t]) = ns.map V.int ∧ ns.length ≤ 2 ∧ (1 < o → 2 * o + g - 1 ∈ ns) ∧ (1 < t → 2 * t + g - 1 ∈ ns) ∧ ∀ m ∈ ns, m ≤ 63 := by
    by_cases c1 : 1 < o <;> by_cases c2 : 1 < t
    ·exact ⟨[2 * o + g - 1, 2 * t + g - 1], by simp [c1, c2], by simp, fun _ => by simp, fun _ => by simp, fun m hm => by simp at hm; omega⟩
    ·exact ⟨[2 * o + g - 1], by simp [c1, c2], by simp, fun _ => by simp, fun h => absurd h c2, fun m hm => by simp at hm; omega⟩
    ·exact ⟨[2 * t + g - 1], by simp [c1, c2], by simp, fun h => absurd h c1, fun _ => by simp, fun m hm => by simp at hm; omega⟩
    ·exact ⟨[], by simp [c1, c2], by simp, fun h => absurd h c1, fun h => absurd h c2, fun m hm => by cases hm⟩
   rw [en]
   refine ⟨small_ok (by rw [List.length_map]; omega), ?_⟩
   intro p4 n_p4
   have e_p4 := upd_same (H := H3) (a := p4) (o := (.lst (ns.map V.int)))
   have s_p4 := same_upd (H := H3) (o := (.lst (ns.map V.int))) n_p4
   replace hp := s_p4 _ _ hp
   replace e_p3 := s_p4 _ _ e_p3
   replace S2 := S2.trans s_p4
   generalize upd H3 p4 ((.lst (ns.map V.int))) = H4 at *
   refine addA_lists e_p3 e_p4 (by rw [List.length_map, sizeLine_eq]; simp; omega) ?_
   intro p5 hp5
   have S5 := S2.trans (same_upd (o := .lst ([V.int (2 + g / 2)] ++ ns.map V.int)) hp5)
   have hp' := upd_old (o := .lst ([V.int (2 + g / 2)] ++ ns.map V.int)) hp hp5
   refine ⟨(2 + g / 2) :: ns, SqL.of upd_same, by simp, fun M hM hle => ?_⟩
   generalize upd H4 p5 (.lst ([V.int (2 + g / 2)] ++ ns.map V.int)) = H5 at *
   have M1 := hle _ (List.mem_cons_self ..)
   have M2 : 1 < o → 2 * o + g - 1 ≤ M := fun q => hle _ (List.mem_cons_of_mem _ (n1 q))
   have M3 : 1 < t → 2 * t + g - 1 ≤ M := fun q => hle _ (List.mem_cons_of_mem _ (n2 q))
   have M4 : M ≤ 63 := by
    rcases List.mem_cons.mp hM with q | q
    ·omega
    ·exact n3 _ q
   rw [← h_u3, tHold]
   generalize h_u4 : tHold _ = u4
   walk_at "wps"
   rw [← h_u4, tHold]
   generalize h_u5 : tHold _ = u5
   refine ⟨fun σ' H' => ∃ f, σ' = [some (.int c), some (.int n), some (.ref p), some (.int g), some (.int M), some (.int f), none] ∧ H' = H5 ∧ (2 ≤ f ∧ f ≤ 64), ?_, ?_⟩
   ·walk_at "wps"
    split
    ·exact ⟨_, rfl, by omega, by omega⟩
    ·exact ⟨_, rfl, by omega, by omega⟩
   rintro σ' H' ⟨f, rfl, rfl, bf⟩
   rw [← h_u5, tHold]
   generalize h_u6 : tHold _ = u6
   walk_at "wps"
   have r0 := Int.emod_nonneg (n / 252) (show 65 - M ≠ 0 by omega)
   have r1 := Int.emod_lt_of_pos (n / 252) (show 0 < 65 - M by omega)
   generalize n / 252 % (65 - M) = rr at *
   refine ⟨by omega, ?_⟩
   rw [← h_u6, tHold]
   walk_at "wps"
   have l0 := Int.emod_nonneg (n / 16128) (show 65 - f ≠ 0 by omega)
   have l1 := Int.emod_lt_of_pos (n / 16128) (show 0 < 65 - f by omega)
   generalize n / 16128 % (65 - f) = ll at *
   refine ⟨by omega, fun x dx hx hdx ne => ?_⟩
   have S6 := same_new (C := C_Terms) (fs := []) hx hdx
   have hg : good (M + rr) o t g f (f + ll) := ⟨by omega, ⟨bo, bt⟩, bg, by omega, by omega⟩
   have hw : ¬ M + rr < leastF o t g := by
    unfold leastF needF
    split <;> split <;> omega
   refine ⟨o, t, dx, S6 _ _ hp', rfl, fun ng => absurd hg ng, fun _ hr => absurd hr hw, fun _ _ H7 b7 h7 => ?_⟩
   refine h x _ o t g f _ H7 (fun b u e => b7 _ _ (S6 _ _ (S5 _ _ e)) (ne_of_none (S5 _ _ e) hx)) ⟨dx, p, h7, b7 _ _ (S6 _ _ hp') (ne_of_none hp' hx)⟩ ⟨hg, hw⟩
  ·exact h.elim
theorem ok__law_text (T : Txt K mg C_Meter C_Ways C_Sender C_Taker C_Hand C_Terms C_RoadError C_NoPiece C_BadTerms C_NotWide C_BadText C_NotNow C_State C_Shut C_Calling C_Leaving)  : FnAt P w K mg base (CX1 P w) "_law_text" 2 ["_law_cell", "_law_size"] sp__law_text := by
 refine T.d__law_text.fn sc__law_text bd__law_text (fun vs H Q E h => ?_) fun f cdv A outer s H vs Q E HR h => ?_
 ·unfold sp__law_text at h; split at h <;> first | rfl | exact h.elim
 ·unfold sp__law_text at h
  split at h
  ·rename_i c n
   refine ⟨_, (pss_cons (ps_setQ (i := 2) sc__law_text.nd rfl (Or.inl rfl) pe_str)
 (pss_cons (ps_setQ (i := 2) sc__law_text.nd rfl (Or.inl rfl) (pe_op (op_addK K rfl) (pv 2) pe_str))
 (pss_hold (pss_cons (ps_setQ (i := 3) sc__law_text.nd rfl (Or.inl rfl) pe_str)
 (pss_hold (pss_cons (ps_for PassesOwn.never rfl (pj_range1 rfl T.b_range (pa_q (pv 1) pa_nil)) (pg_name (i := 4) sc__law_text.nd rfl (Or.inl rfl)) (pss_one (ps_setQ (i := 3) sc__law_text.nd rfl (Or.inl rfl) (pe_op (op_addK K rfl) (pv 3) (pe_ix (ix_B K rfl) (pv 2) (pe_op op_mod (pe_op op_fdiv (pe_fnQ (ok__law_mixed T) HR (by decide) rfl (pa_q (pv 0) (pa_q (pe_op (op_addK K rfl) pe_int (pe_op op_fdiv (pv 4) pe_int)) pa_nil))) (pe_ix (ix_B K rfl) (pe_lst (pa_q pe_int (pa_q pe_int (pa_q pe_int (pa_q pe_int pa_nil))))) (pe_op op_mod (pv 4) pe_int) (fun _ _ => rfl))) pe_int) (fun _ _ => rfl))))))
 (pss_hold (pss_one (ps_ret (pv 3)))))))))), ?_⟩
   obtain ⟨hn, q⟩ := h
   generalize h_u1 : tHold _ = u1
   walk_at "wps"
   refine ⟨by rw [sizeLine_eq]; decide +kernel, ?_⟩
   rw [show (Str.ofString " !\"#$&'()*+,-./0123456789:;<=>?@ABCDEFGHIJKLMNOPQRSTUVWXYZ[\\]^_`" ++ Str.ofString "abcdefghijklmnopqrstuvwxyz{|}~") = signsS by decide +kernel]
   rw [← h_u1, tHold]
   generalize h_u2 : tHold _ = u2
   walk_at "wps"
   rw [← h_u2, tHold]
   generalize h_u3 : tHold _ = u3
   walk_at "wps"
   refine ⟨by omega, ?_⟩
   refine fo_rng (lo := 0) (n := n.toNat) (fun k σ H' => Same H H' ∧ ∃ z v4, σ = [some (.int c), some (.int n), some (.str signsS), some (.str z), v4] ∧ z.length = k ∧ ∀ c ∈ z.cps.toList, c ∈ sgl) ⟨Same.refl _, _, _, rfl, rfl, fun c hc => by cases hc⟩ (fun k σ H' hk hp => ?_) (fun σ H' hp => ?_)
   ·obtain ⟨Sk, z, v4, rfl, lz, cz⟩ := hp
    walk_at "wps"
    refine ⟨by omega, fun v v0 v1 p hp => ?_⟩
    obtain ⟨d, ed, bd⟩ : ∃ d, atI [V.int 1, V.int 94, V.int 8836, V.int 830584] ((0 + (k : Int)) % 4) = some (.int d) ∧ (0 < d ∧ d < 1000000) := by
     obtain e | e | e | e : (0 + (k : Int)) % 4 = 0 ∨ (0 + (k : Int)) % 4 = 1 ∨ (0 + (k : Int)) % 4 = 2 ∨ (0 + (k : Int)) % 4 = 3 := by omega
     ·rw [e]; exact ⟨_, atI_0, by decide⟩
     ·rw [e]; exact ⟨_, atI_1, by decide⟩
     ·rw [e]; exact ⟨_, atI_2, by decide⟩
     ·rw [e]; exact ⟨_, atI_3, by decide⟩
    refine ⟨_, ed, ?_⟩
    walk_at "wps"
    refine ⟨⟨bd.1, by omega⟩, ?_⟩
    rw [rIxA_str]
    have i0 := Int.emod_nonneg (v / d) (show (94 : Int) ≠ 0 by decide)
    have i1 := Int.emod_lt_of_pos (v / d) (show (0 : Int) < 94 by decide)
    obtain ⟨j, ej⟩ : ∃ j : Nat, v / d % 94 = (j : Int) := ⟨(v / d % 94).toNat, by omega⟩
    rw [ej] at i1 ⊢
    have hj : j < sgl.length := by rw [sgl_len]; omega
    refine ⟨sgl[j], by rw [sizeLine_eq]; decide +kernel, atI_n (List.getElem?_eq_getElem hj), ?_⟩
    walk_at "wps"
    refine ⟨by rw [sizeLine_eq]; simp [Str.length]; rw [show z.cps.size = z.length from rfl, lz]; omega, Sk.trans (same_upd hp), _, _, rfl, ?_, fun c' hc => ?_⟩
    ·show (z.cps ++ #[sgl[j]]).size = k + 1
     rw [Array.size_append, show z.cps.size = z.length from rfl, lz]; rfl
    ·have hc' : c' ∈ (z.cps ++ #[sgl[j]]).toList := hc
     rw [Array.toList_append, List.mem_append] at hc'
     rcases hc' with hc' | hc'
     ·exact cz c' hc'
     ·have e : c' = sgl[j] := by simpa using hc'
      rw [e]; exact List.getElem_mem hj
   ·obtain ⟨Sk, z, v4, rfl, lz, cz⟩ := hp
    rw [← h_u3, tHold]
    walk_at "wps"
    exact q z H' Sk (by omega) cz
  ·exact h.elim
theorem ok__law_bad_text (T : Txt K mg C_Meter C_Ways C_Sender C_Taker C_Hand C_Terms C_RoadError C_NoPiece C_BadTerms C_NotWide C_BadText C_NotNow C_State C_Shut C_Calling C_Leaving)  : FnAt P w K mg base (CX1 P w) "_law_bad_text" 3 ["_law_cell"] sp__law_bad_text := by
 refine T.d__law_bad_text.fn sc__law_bad_text bd__law_bad_text (fun vs H Q E h => ?_) fun f cdv A outer s H vs Q E HR h => ?_
 ·unfold sp__law_bad_text at h; split at h <;> first | rfl | exact h.elim
 ·unfold sp__law_bad_text at h
  split at h
  ·rename_i c
   refine ⟨_, (pss_cons (ps_if (pt_cmpR (op_eqXK K rfl HR.units) (pe_op op_mod (pv 0) pe_int) pe_int (nomark _)) (pss_one (ps_ret pe_str)) pss_nil)
 (pss_hold (pss_cons (ps_if (pt_cmpR (op_eqXK K rfl HR.units) (pe_op op_mod (pv 0) pe_int) pe_int (nomark _)) (pss_one (ps_ret (pe_fnQ (ok__law_text T) HR (by decide) rfl (pa_q (pe_op op_fdiv (pv 0) pe_int) (pa_q (pe_op (op_addK K rfl) pe_int (pe_op op_mod (pe_op op_fdiv (pv 0) pe_int) pe_int)) pa_nil))))) pss_nil)
 (pss_hold (pss_cons (ps_setQ (i := 1) sc__law_bad_text.nd rfl (Or.inl rfl) (pe_fnQ (ok__law_text T) HR (by decide) rfl (pa_q (pe_op op_fdiv (pv 0) pe_int) (pa_q (pe_op (op_addK K rfl) pe_int (pe_op op_mod (pe_op op_fdiv (pv 0) pe_int) pe_int)) pa_nil))))
 (pss_hold (pss_cons (ps_setQ (i := 2) sc__law_bad_text.nd rfl (Or.inl rfl) (pe_op op_mod (pe_op op_fdiv (pv 0) pe_int) (pe_op (op_addK K rfl) (pe_callBQ (call_lenB K rfl) (by rfl) T.b_len bt_len (pa_q (pv 1) pa_nil)) pe_int)))
 (pss_hold (pss_one (ps_ret (pe_op (op_addK K rfl) (pe_op (op_addK K rfl) (pe_slice (sl_K K rfl) (pv 1) po_none (po_some (pv 2))) (pe_ix (ix_B K rfl) (pe_lst (pa_q pe_str (pa_q pe_str pa_nil))) (pe_op op_mod (pv 0) pe_int) (fun _ _ => rfl))) (pe_slice (sl_K K rfl) (pv 1) (po_some (pv 2)) po_none)))))))))))), ?_⟩
   have q := h
   walk_at "wps"
   by_cases c0 : c % 4 = 0
   ·rw [if_pos c0]
    exact q _ H (Same.refl _) (by decide) (by decide +kernel)
   rw [if_neg c0, tHold]
   generalize h_u1 : tHold _ = u1
   walk_at "wps"
   by_cases c1 : c % 4 = 1
   ·rw [if_pos c1]
    refine ⟨by omega, fun z H' S' hz _ => q z H' S' (by omega) ?_⟩
    unfold textB
    rw [decide_eq_false (show ¬ z.length ≤ 60 by omega), Bool.and_false]; rfl
   rw [if_neg c1]
   rw [← h_u1, tHold]
   generalize h_u2 : tHold _ = u2
   walk_at "wps"
   refine ⟨by omega, fun z H1 S1 hz _ => ?_⟩
   rw [← h_u2, tHold]
   generalize h_u3 : tHold _ = u3
   walk_at "wps"
   have a0 := Int.emod_nonneg (c / 236) (show (z.length : Int) + 1 ≠ 0 by omega)
   have a1 := Int.emod_lt_of_pos (c / 236) (show 0 < (z.length : Int) + 1 by omega)
   generalize c / 236 % ((z.length : Int) + 1) = at' at *
   rw [← h_u3, tHold]
   walk_at "wps"
   have s1 := slice_lo (z := z) a0 (by omega)
   have s2 := slice_hi (z := z) a0 (by omega)
   refine ⟨by rw [sizeLine_eq]; omega, by omega, by rw [sizeLine_eq]; omega, fun p hp => ?_⟩
   obtain ⟨cc, ev, hc⟩ : ∃ cc : Nat, atI [V.str (Str.ofString "\n"), V.str (Str.ofString "\t")] (c % 2) = some (.str ⟨#[cc]⟩) ∧ inS (.str ⟨#[cc]⟩) = false := by
    obtain e | e : c % 2 = 0 ∨ c % 2 = 1 := by omega
    ·rw [e]; exact ⟨10, atI_0, by decide +kernel⟩
    ·rw [e]; exact ⟨9, atI_1, by decide +kernel⟩
   refine ⟨_, ev, ?_⟩
   walk_at "wps"
   have l1 : (Txt.slice z none (some at') ++ ⟨#[cc]⟩ : Str).length = (Txt.slice z none (some at')).length + 1 := by
    show ((Txt.slice z none (some at')).cps ++ #[cc]).size = _
    rw [Array.size_append]; rfl
   have l2 : (Txt.slice z none (some at') ++ ⟨#[cc]⟩ ++ Txt.slice z (some at') none : Str).length = (Txt.slice z none (some at') ++ ⟨#[cc]⟩ : Str).length + (Txt.slice z (some at') none).length := by
    show ((Txt.slice z none (some at') ++ ⟨#[cc]⟩ : Str).cps ++ (Txt.slice z (some at') none).cps).size = _
    rw [Array.size_append]; rfl
   have l3 : (⟨#[cc]⟩ : Str).length = 1 := rfl
   refine ⟨by rw [sizeLine_eq]; omega, by rw [sizeLine_eq]; omega, by rw [sizeLine_eq]; omega, q _ _ (S1.trans (same_upd hp)) (by omega) (bad_mid hc)⟩
  ·exact h.elim
theorem ok__law_bad (T : Txt K mg C_Meter C_Ways C_Sender C_Taker C_Hand C_Terms C_RoadError C_NoPiece C_BadTerms C_NotWide C_BadText C_NotNow C_State C_Shut C_Calling C_Leaving)         : FnAt P w K mg base (CX1 P w) "_law_bad" 4 ["_law_hand", "_law_signs"] (sp__law_bad C_Hand C_Taker C_Sender C_Ways C_Meter C_Shut C_Calling C_Leaving) := by
 refine T.d__law_bad.fn sc__law_bad bd__law_bad (fun vs H Q E h => ?_) fun f cdv A outer s H vs Q E HR h => ?_
 ·unfold sp__law_bad at h; split at h <;> first | rfl | exact h.elim
 ·unfold sp__law_bad at h
  split at h
  ·rename_i x t
   refine ⟨_, (pss_cons (ps_setQ (i := 2) sc__law_bad.nd rfl (Or.inl rfl) pe_bl)
 (pss_hold (pss_cons (ps_try (fun _ _ _ => (pss_one (ps_exprQ (pe_mtS (pv 0) T.k_Hand (ok_Hand_put T) HR (by decide) (pass_try rfl) (pa_q (pv 1) pa_nil))))) (ph_cons (i := 3) rfl T.xm_BadText rfl sc__law_bad.nd rfl rfl (fun _ => (pss_one (ps_setQ (i := 2) sc__law_bad.nd rfl (Or.inl rfl) (pe_and (pe_callBQ (call_isiX K rfl) (by rfl) T.b_isinstance bt_isinstance (pa_q (pv 3) (pa_q (pe_cls T.xm_RoadError rfl) pa_nil))) (pe_and (pe_callBQ (call_isiX K rfl) (by rfl) T.b_isinstance bt_isinstance (pa_q (pv 3) (pa_q (pe_ty rfl T.b_ValueError bt_ValueError) pa_nil))) (pe_one (pe_not (pe_callBQ (call_isiX K rfl) (by rfl) T.b_isinstance bt_isinstance (pa_q (pv 3) (pa_q (pe_cls T.xm_NotNow rfl) pa_nil)))))))))) (ph_cons0 rfl T.xm_NotNow rfl (fun _ => (pss_one (ps_setQ (i := 2) sc__law_bad.nd rfl (Or.inl rfl) pe_bl))) ph_nil)))
 (pss_hold (pss_one (ps_ret (pv 2))))))), ?_⟩
   obtain ⟨A, z, hH, hT, ht, tb, q⟩ := h
   generalize h_u1 : tHold _ = u1
   walk_at "wps"
   rw [← h_u1, tHold]
   generalize h_u2 : tHold _ = u2
   exists hH.hx, T.g_NoPiece, T.xf_NoPiece_what, T.qv_NoPiece, T.q_NoPiece_RoadError, T.m_NoPiece_RoadError, T.q_NoPiece_NoPiece, T.m_NoPiece_NoPiece, T.q_NoPiece_BadTerms, T.m_NoPiece_BadTerms, T.q_NoPiece_NotWide, T.m_NoPiece_NotWide, T.q_NoPiece_BadText, T.m_NoPiece_BadText, T.q_NoPiece_NotNow, T.m_NoPiece_NotNow, T.g_BadTerms, T.qv_BadTerms, T.q_BadTerms_RoadError, T.m_BadTerms_RoadError, T.q_BadTerms_NoPiece, T.m_BadTerms_NoPiece, T.q_BadTerms_BadTerms, T.m_BadTerms_BadTerms, T.q_BadTerms_NotWide, T.m_BadTerms_NotWide, T.q_BadTerms_BadText, T.m_BadTerms_BadText, T.q_BadTerms_NotNow, T.m_BadTerms_NotNow, T.g_NotWide, T.xf_NotWide_least, T.qv_NotWide, T.q_NotWide_RoadError, T.m_NotWide_RoadError, T.q_NotWide_NoPiece, T.m_NotWide_NoPiece, T.q_NotWide_BadTerms, T.m_NotWide_BadTerms, T.q_NotWide_NotWide, T.m_NotWide_NotWide, T.q_NotWide_BadText, T.m_NotWide_BadText, T.q_NotWide_NotNow, T.m_NotWide_NotNow, T.g_BadText, T.qv_BadText, T.q_BadText_RoadError, T.m_BadText_RoadError, T.q_BadText_NoPiece, T.m_BadText_NoPiece, T.q_BadText_BadTerms, T.m_BadText_BadTerms, T.q_BadText_NotWide, T.m_BadText_NotWide, T.q_BadText_BadText, T.m_BadText_BadText, T.q_BadText_NotNow, T.m_BadText_NotNow, T.g_NotNow, T.xf_NotNow_state, T.xf_NotNow_wish, T.qv_NotNow, T.q_NotNow_RoadError, T.m_NotNow_RoadError, T.q_NotNow_NoPiece, T.m_NotNow_NoPiece, T.q_NotNow_BadTerms, T.m_NotNow_BadTerms, T.q_NotNow_NotWide, T.m_NotNow_NotWide, T.q_NotNow_BadText, T.m_NotNow_BadText, T.q_NotNow_NotNow, T.m_NotNow_NotNow
   refine ⟨A, z, hH, hT, ht, fun _ H1 S1 ea hea => ?_, (fun e => by rw [tb] at e; cases e), (fun e => by rw [tb] at e; cases e)⟩
   rw [← h_u2, tHold]
   walk_at "wps"
   exact q _ (S1.trans (same_upd hea))
  ·exact h.elim
theorem ok__law_wished (T : Txt K mg C_Meter C_Ways C_Sender C_Taker C_Hand C_Terms C_RoadError C_NoPiece C_BadTerms C_NotWide C_BadText C_NotNow C_State C_Shut C_Calling C_Leaving)          : FnAt P w K mg base (CX1 P w) "_law_wished" 5 ["_law_hand", "_law_word", "_law_signs"] (sp__law_wished C_Hand C_Taker C_Sender C_Ways C_Meter C_Shut C_Calling C_Leaving K) := by
 refine T.d__law_wished.fn sc__law_wished bd__law_wished (fun vs H Q E h => ?_) fun f cdv A outer s H vs Q E HR h => ?_
 ·unfold sp__law_wished at h; split at h <;> first | rfl | exact h.elim
 ·unfold sp__law_wished at h
  split at h
  ·rename_i x w' t
   refine ⟨_, (pss_cons (ps_setQ (i := 3) sc__law_wished.nd rfl (Or.inl rfl) pe_str)
 (pss_hold (pss_cons (ps_setQ (i := 4) sc__law_wished.nd rfl (Or.inl rfl) pe_non)
 (pss_hold (pss_cons (ps_try (fun _ _ _ => (pss_one (ps_if (pt_cmpR (op_eqXK K rfl HR.units) (pv 1) pe_str (nomark _)) (pss_one (ps_setQ (i := 4) sc__law_wished.nd rfl (Or.inl rfl) (pe_mtS0 (pv 0) T.k_Hand (ok_Hand_begin T) HR (by decide) (pass_try rfl)))) (pss_one (ps_if (pt_cmpR (op_eqXK K rfl HR.units) (pv 1) pe_str (nomark _)) (pss_one (ps_setQ (i := 4) sc__law_wished.nd rfl (Or.inl rfl) (pe_mtS0 (pv 0) T.k_Hand (ok_Hand_end T) HR (by decide) (pass_try rfl)))) (pss_one (ps_setQ (i := 4) sc__law_wished.nd rfl (Or.inl rfl) (pe_mtS (pv 0) T.k_Hand (ok_Hand_put T) HR (by decide) (pass_try rfl) (pa_q (pv 2) pa_nil))))))))) (ph_cons (i := 5) rfl T.xm_NotNow rfl sc__law_wished.nd rfl rfl (fun _ => (pss_one (ps_setQ (i := 3) sc__law_wished.nd rfl (Or.inl rfl) (pe_tup (pa_q (pe_getX (pv 5) T.g_NotNow T.xf_NotNow_state rfl) (pa_q (pe_getX (pv 5) T.g_NotNow T.xf_NotNow_wish rfl) (pa_q (pe_callBQ (call_isiX K rfl) (by rfl) T.b_isinstance bt_isinstance (pa_q (pv 5) (pa_q (pe_cls T.xm_RoadError rfl) pa_nil))) (pa_q (pe_callBQ (call_isiX K rfl) (by rfl) T.b_isinstance bt_isinstance (pa_q (pv 5) (pa_q (pe_cls T.xm_BadText rfl) pa_nil))) pa_nil)))))))) ph_nil))
 (pss_hold (pss_cons (ps_if (pt_cmpR op_notNA (pv 4) pe_non (nomark _)) (pss_one (ps_ret pe_str)) pss_nil)
 (pss_hold (pss_one (ps_ret (pv 3))))))))))), ?_⟩
   obtain ⟨A, z, hH, hT, hE, ht, tb, hw, q1, q2⟩ := h
   generalize h_u1 : tHold _ = u1
   walk_at "wps"
   rw [← h_u1, tHold]
   generalize h_u2 : tHold _ = u2
   walk_at "wps"
   rw [← h_u2, tHold]
   generalize h_u3 : tHold _ = u3
   exists hH.hx, T.g_NoPiece, T.xf_NoPiece_what, T.qv_NoPiece, T.q_NoPiece_RoadError, T.m_NoPiece_RoadError, T.q_NoPiece_NoPiece, T.m_NoPiece_NoPiece, T.q_NoPiece_BadTerms, T.m_NoPiece_BadTerms, T.q_NoPiece_NotWide, T.m_NoPiece_NotWide, T.q_NoPiece_BadText, T.m_NoPiece_BadText, T.q_NoPiece_NotNow, T.m_NoPiece_NotNow, T.g_BadTerms, T.qv_BadTerms, T.q_BadTerms_RoadError, T.m_BadTerms_RoadError, T.q_BadTerms_NoPiece, T.m_BadTerms_NoPiece, T.q_BadTerms_BadTerms, T.m_BadTerms_BadTerms, T.q_BadTerms_NotWide, T.m_BadTerms_NotWide, T.q_BadTerms_BadText, T.m_BadTerms_BadText, T.q_BadTerms_NotNow, T.m_BadTerms_NotNow, T.g_NotWide, T.xf_NotWide_least, T.qv_NotWide, T.q_NotWide_RoadError, T.m_NotWide_RoadError, T.q_NotWide_NoPiece, T.m_NotWide_NoPiece, T.q_NotWide_BadTerms, T.m_NotWide_BadTerms, T.q_NotWide_NotWide, T.m_NotWide_NotWide, T.q_NotWide_BadText, T.m_NotWide_BadText, T.q_NotWide_NotNow, T.m_NotWide_NotNow, T.g_BadText, T.qv_BadText, T.q_BadText_RoadError, T.m_BadText_RoadError, T.q_BadText_NoPiece, T.m_BadText_NoPiece, T.q_BadText_BadTerms, T.m_BadText_BadTerms, T.q_BadText_NotWide, T.m_BadText_NotWide, T.q_BadText_BadText, T.m_BadText_BadText, T.q_BadText_NotNow, T.m_BadText_NotNow, T.g_NotNow, T.xf_NotNow_state, T.xf_NotNow_wish, T.qv_NotNow, T.q_NotNow_RoadError, T.m_NotNow_RoadError, T.q_NotNow_NoPiece, T.m_NotNow_NoPiece, T.q_NotNow_BadTerms, T.m_NotNow_BadTerms, T.q_NotNow_NotWide, T.m_NotNow_NotWide, T.q_NotNow_BadText, T.m_NotNow_BadText, T.q_NotNow_NotNow, T.m_NotNow_NotNow
   have okk : ∀ H', Q (.str "ok") H' → u3 { nx := fun _ H' => Q .non H', rt := Q } [some (.ref x), some (.str w'), some (.str t), some (.str "ok"), some .non, none] H' := fun H' hq => by
    rw [← h_u3, tHold]
    walk_at "wps"
    rw [tHold]
    walk_at "wps"
    exact hq
   have bad : ∀ H' d ea v vw, Same H H' → H' d = some (.xd [("state", v), ("wish", vw)]) → H' ea = none → (∀ p H'', Same H H'' → H'' p = some (.tup [v, vw, .bl true, .bl false]) → Q (.ref p) H'') →
     ∃ fs, upd H' ea (HO.ext (exF ea (Value.ref C_NotNow) (some d))) d = some (HO.xd fs) ∧ ∃ v, List.lookup (Str.ofString "state") fs = some v ∧ ∃ fs, upd H' ea (HO.ext (exF ea (Value.ref C_NotNow) (some d))) d = some (HO.xd fs) ∧ ∃ v_1, List.lookup (Str.ofString "wish") fs = some v_1 ∧
      (∃ fs, upd H' ea (HO.ext (exF ea (Value.ref C_NotNow) (some d))) d = some (HO.xd fs)) ∧ (∃ fs, upd H' ea (HO.ext (exF ea (Value.ref C_NotNow) (some d))) d = some (HO.xd fs)) ∧ ∀ (p : Addr), upd H' ea (HO.ext (exF ea (Value.ref C_NotNow) (some d))) p = none →
       u3 { nx := fun x H' => Q V.non H', rt := Q } [some (V.ref x), some (V.str w'), some (V.str t), some (V.ref p), some V.non, none] (upd (upd H' ea (HO.ext (exF ea (Value.ref C_NotNow) (some d)))) p (HO.tup [v, v_1, V.bl true, V.bl false])) := fun H' d ea v vw S' hd hea hq => by
    have nd : d ≠ ea := ne_of_none hd hea
    rw [upd_ne nd, hd]
    refine ⟨_, rfl, _, rfl, _, rfl, _, rfl, ⟨_, rfl⟩, ⟨_, rfl⟩, fun p hp => ?_⟩
    rw [← h_u3, tHold]
    walk_at "wps"
    rw [tHold]
    walk_at "wps"
    exact hq p _ (fun b u e => upd_old (upd_old (S' b u e) hea) hp) upd_same
   rcases hw with rfl | rfl | rfl
   ·rw [if_pos rfl]
    refine ⟨A, z, hH, by omega, fun nx hn a st' H' ha kp hh => okk H' ?_, fun hn H' d S' hd ea hea => bad H' d ea _ _ S' hd hea (q2 ?_)⟩
    ·have e : nxt z.nm "begin" = nx := by unfold nxt; rw [if_neg (by decide +kernel), hn]; rfl
     refine q1 (by unfold mayW; rw [if_neg (by decide +kernel), hn]; rfl) st' [.ref a] z.ends H' kp (by omega) (by rw [e]; exact hh) ?_
     rw [show thOf "begin" t = [((Str.ofString "begin", Str.ofString "") : Str × Str)] from if_neg (by decide +kernel)]
     exact .cons ⟨a, rfl, ha H'⟩ .nil
    ·unfold mayW; rw [if_neg (by decide +kernel), hn]; rfl
   ·rw [if_neg (by decide +kernel), if_pos rfl]
    refine ⟨A, z, hH, by omega, hE, fun nx hn a st' H' ha kp hh => okk H' ?_, fun hn H' d S' hd ea hea => bad H' d ea _ _ S' hd hea (q2 ?_)⟩
    ·have e : nxt z.nm "end" = nx := by unfold nxt; rw [if_neg (by decide +kernel), hn]; rfl
     refine q1 (by unfold mayW; rw [if_neg (by decide +kernel), hn]; rfl) st' [.ref a] (z.ends ++ [(z.sd.T.length : Int)]) H' kp (by simp) (by rw [e]; exact hh) ?_
     rw [show thOf "end" t = [((Str.ofString "end", Str.ofString "") : Str × Str)] from if_neg (by decide +kernel)]
     exact .cons ⟨a, rfl, ha H'⟩ .nil
    ·unfold mayW; rw [if_neg (by decide +kernel), hn]; rfl
   ·rw [if_neg (by decide +kernel), if_neg (by decide +kernel)]
    refine ⟨A, z, hH, hT, ht, (fun e => by rw [tb] at e; cases e), fun _ hn H' d S' hd ea hea => bad H' d ea _ _ S' hd hea (q2 ?_), fun _ hn vs H' kp hh pp => okk H' ?_⟩
    ·unfold mayW; rw [if_pos rfl]; exact hn
    ·have e : nxt z.nm "put" = z.nm := by unfold nxt; rw [if_pos rfl]
     refine q1 (by unfold mayW; rw [if_pos rfl]; exact hn) A.st vs z.ends H' kp (by omega) (by rw [e]; exact hh) ?_
     rw [show thOf "put" t = (chunks t).map fun s => ((Str.ofString "signs", s) : Str × Str) from if_pos rfl]
     refine pr_mapr (pr_imp pp fun v s hv => ?_)
     obtain ⟨p, rfl, hp⟩ := hv
     exact ⟨p, rfl, SqT.of hp⟩
  ·exact h.elim
theorem ok__law_after (T : Txt K mg C_Meter C_Ways C_Sender C_Taker C_Hand C_Terms C_RoadError C_NoPiece C_BadTerms C_NotWide C_BadText C_NotNow C_State C_Shut C_Calling C_Leaving)  : FnAt P w K mg base (CX1 P w) "_law_after" 1 ["_law_name", "_law_word"] sp__law_after := by
 refine T.d__law_after.fn sc__law_after bd__law_after (fun vs H Q E h => ?_) fun f cdv A outer s H vs Q E HR h => ?_
 ·unfold sp__law_after at h; split at h <;> first | rfl | exact h.elim
 ·unfold sp__law_after at h
  split at h
  ·rename_i n w'
   refine ⟨_, (pss_cons (ps_if (PW.pt (pw_and (pt_cmpR (op_eqXK K rfl HR.units) (pv 1) pe_str (nomark _)) (pw_and1 (pt_cmpR (op_eqXK K rfl HR.units) (pv 0) pe_str (nomark _))))) (pss_one (ps_ret pe_str)) pss_nil)
 (pss_cons (ps_if (PW.pt (pw_and (pt_cmpR (op_eqXK K rfl HR.units) (pv 1) pe_str (nomark _)) (pw_and1 (pt_cmpR (op_eqXK K rfl HR.units) (pv 0) pe_str (nomark _))))) (pss_one (ps_ret pe_str)) pss_nil)
 (pss_cons (ps_if (PW.pt (pw_and (pt_cmpR (op_eqXK K rfl HR.units) (pv 1) pe_str (nomark _)) (pw_and1 (pt_cmpR (op_eqXK K rfl HR.units) (pv 0) pe_str (nomark _))))) (pss_one (ps_ret pe_str)) pss_nil)
 (pss_one (ps_ret pe_non))))), ?_⟩
   walk_at "wps"
   unfold aftV at h
   repeat' split
   all_goals (repeat' split at h)
   all_goals first | exact h | (exfalso; simp_all)
  ·exact h.elim
theorem ok__law_put (T : Txt K mg C_Meter C_Ways C_Sender C_Taker C_Hand C_Terms C_RoadError C_NoPiece C_BadTerms C_NotWide C_BadText C_NotNow C_State C_Shut C_Calling C_Leaving)          : FnAt P w K mg base (CX1 P w) "_law_put" 2 ["_law_hand", "_law_due"] (sp__law_put C_Hand C_Taker C_Sender C_Ways C_Meter C_Shut C_Calling C_Leaving K) := by
 refine T.d__law_put.fn sc__law_put bd__law_put (fun vs H Q E h => ?_) fun f cdv A outer s H vs Q E HR h => ?_
 ·unfold sp__law_put at h; split at h <;> first | rfl | exact h.elim
 ·unfold sp__law_put at h
  split at h
  ·rename_i x pd
   refine ⟨_, (pss_cons (ps_setQ (i := 2) sc__law_put.nd rfl (Or.inl rfl) (pe_fldC (pv 0) T.k_Hand T.n_Hand_sender rfl))
 (pss_hold (pss_cons (ps_if (PW.pt (pw_or (pt_cmpR (op_neXK K rfl HR.units) (pe_mtC0 (pv 2) T.k_Sender (ok_Sender_many T) HR (by decide)) (pe_callBQ (call_lenB K rfl) (by rfl) T.b_len bt_len (pa_q (pv 1) pa_nil)) (nomark _)) (pw_or (pt_cmpR (op_neXK K rfl HR.units) (pe_fldC (pv 2) T.k_Sender T.n_Sender_base rfl) pe_int (nomark _)) (pw_or (pt_cmpR (op_neXK K rfl HR.units) (pe_fldC (pv 2) T.k_Sender T.n_Sender_top rfl) pe_int (nomark _)) (pw_or1 (pt_cmpR (op_neXK K rfl HR.units) (pe_fldC (pv 2) T.k_Sender T.n_Sender_edge rfl) pe_int (nomark _))))))) (pss_one (ps_ret pe_bl)) pss_nil)
 (pss_hold (pss_cons (ps_for PassesOwn.never rfl (pj_range1 rfl T.b_range (pa_q (pe_callBQ (call_lenB K rfl) (by rfl) T.b_len bt_len (pa_q (pv 1) pa_nil)) pa_nil)) (pg_name (i := 3) sc__law_put.nd rfl (Or.inl rfl)) (pss_cons (ps_setQ (i := 4) sc__law_put.nd rfl (Or.inl rfl) (pe_mtC (pv 2) T.k_Sender (ok_Sender_thing T) HR (by decide) (pa_q (pv 3) pa_nil)))
 (pss_hold (pss_one (ps_if (PW.pt (pw_or (pt_not (pt_q (pe_callBQ (call_isiT K rfl) (by rfl) T.b_isinstance bt_isinstance (pa_q (pv 4) (pa_q (pe_ty rfl T.b_tuple bt_tuple) pa_nil))))) (pw_or1 (pt_cmpR (op_neXK K rfl HR.units) (pv 4) (pe_ix (ix_B K rfl) (pv 1) (pv 3) (fun _ _ => rfl)) (nomark _))))) (pss_one (ps_ret pe_bl)) pss_nil)))))
 (pss_hold (pss_one (ps_ret pe_bl)))))))), ?_⟩
   obtain ⟨A, z, vs, ths, hH, hd, p1, p2, hb, ht, he, hl, q⟩ := h
   have l1 := pr_len p1
   have l2 := pr_len p2
   generalize h_u1 : tHold _ = u1
   exists hH.hx
   rw [← h_u1, tHold]
   generalize h_u2 : tHold _ = u2
   exists hH.sd.hx, hd
   refine ⟨_, _, hH.sd, ?_⟩
   rw [if_neg (by omega), if_neg (by omega), if_neg (by omega), if_neg (by omega)]
   rw [← h_u2, tHold]
   generalize h_u3 : tHold _ = u3
   exists hd
   refine ⟨by omega, ?_⟩
   rw [Int.toNat_natCast]
   refine fo_rng (lo := 0) (n := vs.length) (fun k σ H' => H' = H ∧ ∃ v3 v4, σ = [some (.ref x), some (.ref pd), some (.ref A.sd), v3, v4]) ⟨rfl, _, _, rfl⟩ (fun k σ H' hk hp => ?_) (fun σ H' hp => ?_)
   ·obtain ⟨rfl, v3, v4, rfl⟩ := hp
    rw [Int.zero_add]
    obtain ⟨t1, e1, pa, ea, r1⟩ := pr_get p1 (List.getElem?_eq_getElem hk)
    obtain ⟨t2, e2, pb, eb, r2⟩ := pr_get p2 (List.getElem?_eq_getElem (show k < z.sd.T.length by omega))
    rw [e1] at e2
    obtain rfl : t1 = t2 := by injection e2
    have ga : atI vs (k : Int) = some (.ref pa) := atI_n (by rw [← ea]; exact List.getElem?_eq_getElem hk)
    have gb : atI z.sd.T (k : Int) = some (.ref pb) := atI_n (by rw [← eb]; exact List.getElem?_eq_getElem (by omega))
    exists hH.sd.hx
    refine ⟨_, _, _, hH.sd, gb, ?_⟩
    rw [← h_u3, tHold]
    exists hd, ga
    refine ⟨⟨_, r2⟩, 1, .t [.str t1.1, .str t1.2], .t [.str t1.1, .str t1.2], by decide, .inr (.inr ⟨pb, _, _, rfl, rfl, r2, .cons dn_str (.cons dn_str .nil)⟩), .inr (.inr ⟨pa, _, _, rfl, rfl, r1, .cons dn_str (.cons dn_str .nil)⟩), .inl ⟨rfl, false, rfl, ?_⟩⟩
    rw [if_neg (by decide)]
    exact ⟨rfl, _, _, rfl⟩
   ·obtain ⟨rfl, v3, v4, rfl⟩ := hp
    rw [tHold]
    walk_at "wps"
    exact q
  ·exact h.elim
theorem ok__law_made_by (T : Txt K mg C_Meter C_Ways C_Sender C_Taker C_Hand C_Terms C_RoadError C_NoPiece C_BadTerms C_NotWide C_BadText C_NotNow C_State C_Shut C_Calling C_Leaving)          : FnAt P w K mg base (CX1 P w) "_law_made_by" 3 ["_law_hand", "_law_terms_here", "_law_side"] (sp__law_made_by C_Hand C_Taker C_Sender C_Ways C_Meter C_Shut C_Calling C_Leaving C_Terms) := by
 refine T.d__law_made_by.fn sc__law_made_by bd__law_made_by (fun vs H Q E h => ?_) fun f cdv A outer s H vs Q E HR h => ?_
 ·unfold sp__law_made_by at h; split at h <;> first | rfl | exact h.elim
 ·unfold sp__law_made_by at h
  split at h
  ·rename_i x tm side
   refine ⟨_, (pss_cons (ps_setQ (i := 3) sc__law_made_by.nd rfl (Or.inl rfl) (pe_fldC (pe_fldC (pv 0) T.k_Hand T.n_Hand_sender rfl) T.k_Sender T.n_Sender_ways rfl))
 (pss_hold (pss_cons (ps_if (PW.pt (pw_or (pt_cmpR (op_neXK K rfl HR.units) (pe_fldC (pv 3) T.k_Ways T.n_Ways_wait rfl) (pe_fldC (pv 1) T.k_Terms T.n_Terms_first rfl) (nomark _)) (pw_or1 (pt_cmpR (op_neXK K rfl HR.units) (pe_fldC (pe_fldC (pe_fldC (pv 0) T.k_Hand T.n_Hand_sender rfl) T.k_Sender T.n_Sender_meter rfl) T.k_Meter T.n_Meter_knee rfl) (pe_ix (ix_B K rfl) (pe_fldC (pv 1) T.k_Terms T.n_Terms_rooms rfl) (pe_op op_sub pe_int (pv 2)) (fun _ _ => rfl)) (nomark _))))) (pss_one (ps_ret pe_bl)) pss_nil)
 (pss_hold (pss_cons (ps_if (pt_cmpR (op_neXK K rfl HR.units) (pe_mtC0 (pe_fldC (pv 0) T.k_Hand T.n_Hand_taker rfl) T.k_Taker (ok_Taker_answer T) HR (by decide)) (pe_tup (pa_q pe_int (pa_q (pe_ix (ix_B K rfl) (pe_fldC (pv 1) T.k_Terms T.n_Terms_rooms rfl) (pv 2) (fun _ _ => rfl)) (pa_q (pe_tup pa_nil) pa_nil)))) (nomark _)) (pss_one (ps_ret pe_bl)) pss_nil)
 (pss_hold (pss_cons (ps_for PassesOwn.never rfl (pj_range1 rfl T.b_range (pa_q pe_int pa_nil)) (pg_name (i := 4) sc__law_made_by.nd rfl (Or.inl rfl)) (pss_one (ps_if (pt_cmpR op_notNA (pe_mtC0 (pv 3) T.k_Ways (ok_Ways_ran_out T) HR (by decide)) pe_non (nomark _)) (pss_one (ps_ret pe_bl)) pss_nil)))
 (pss_hold (pss_one (ps_ret (pe_cmpR (op_eqXK K rfl HR.units) (pe_fldC (pv 3) T.k_Ways T.n_Ways_wait rfl) (pe_fldC (pv 1) T.k_Terms T.n_Terms_longest rfl) (nomark _)))))))))))), ?_⟩
   obtain ⟨A, z, r, o, t, g, f, l, hH, ⟨dt, p, htm, hp⟩, hg, hs, ew, eL, ek, et, q⟩ := h
   obtain ⟨s, sp, hw⟩ := hH.sd.ws.ins
   have own : atI [V.int o, V.int t] side = some (.int (if side = 0 then o else t)) ∧ atI [V.int o, V.int t] (1 - side) = some (.int (if side = 0 then t else o)) := by
    rcases hs with rfl | rfl
    ·exact ⟨by rw [if_pos rfl]; exact atI_0, by rw [if_pos rfl]; exact atI_1⟩
    ·exact ⟨by rw [if_neg (by decide)]; exact atI_1, by rw [if_neg (by decide)]; exact atI_0⟩
   generalize h_u1 : tHold _ = u1
   exists hH.hx, hH.sd.hx
   rw [← h_u1, tHold]
   generalize h_u2 : tHold _ = u2
   exists hw, htm, hH.hx, hH.sd.hx, hH.sd.ms.1, hp
   rw [if_neg (by omega)]
   refine ⟨_, own.2, ?_⟩
   walk_at "wps"
   rw [if_neg (by omega)]
   rw [← h_u2, tHold]
   generalize h_u3 : tHold _ = u3
   exists hH.hx, htm, hp, own.1, hH.tk.hx
   obtain ⟨g1, ⟨g2, g3⟩, g4, g5, g6⟩ := hg
   have bm : 1 ≤ (if side = 0 then o else t) ∧ (if side = 0 then o else t) ≤ 16 := by split <;> omega
   have hT := hH.tk
   rw [et] at hT
   generalize (if side = 0 then o else t) = mo at *
   refine ⟨_, _, _, hT, by show 0 < r; omega, ⟨by show 0 ≤ 0 + mo - 0; omega, by show 0 + mo - 0 ≤ 1000; omega⟩, fun pp tt hs' H1 S1 ehs np nt htt hpp => ?_⟩
   have ehs' : hs' = [] := by
    rw [ehs]
    unfold heldL
    rw [List.filter_eq_nil_iff.mpr (fun a _ => by simp [valV_nil])]
    rfl
   subst ehs'
   have htm1 := S1 _ _ htm
   have hp1 := S1 _ _ hp
   exists htm1, hp1, own.1
   intro p1 n_p1
   have e_p1 := upd_same (H := H1) (a := p1) (o := (.tup []))
   have s_p1 := same_upd (H := H1) (o := (.tup [])) n_p1
   replace htt := s_p1 _ _ htt
   replace hpp := s_p1 _ _ hpp
   replace S1 := S1.trans s_p1
   generalize upd H1 p1 ((.tup [])) = H2 at *
   intro p2 n_p2
   have e_p2 := upd_same (H := H2) (a := p2) (o := (.tup [.int 0, .int mo, .ref p1]))
   have s_p2 := same_upd (H := H2) (o := (.tup [.int 0, .int mo, .ref p1])) n_p2
   replace htt := s_p2 _ _ htt
   replace hpp := s_p2 _ _ hpp
   replace e_p1 := s_p2 _ _ e_p1
   replace S1 := S1.trans s_p2
   generalize upd H2 p2 ((.tup [.int 0, .int mo, .ref p1])) = H3 at *
   refine ⟨2, .t [.int 0, .int mo, .t []], .t [.int 0, .int mo, .t []], by decide, ?_, dn_tup e_p2 (.cons dn_int (.cons dn_int (.cons (dn_tup e_p1 .nil) .nil))), .inl ⟨rfl, _, rfl, ?_⟩⟩
   ·refine dn_tup hpp ?_
    rw [show (⟨r, mo, 0, 0, []⟩ : Tk).g % (⟨r, mo, 0, 0, []⟩ : Tk).R = 0 from Int.zero_emod _, show (⟨r, mo, 0, 0, []⟩ : Tk).o + (⟨r, mo, 0, 0, []⟩ : Tk).M - (⟨r, mo, 0, 0, []⟩ : Tk).g = mo by show 0 + mo - 0 = mo; omega]
    exact .cons dn_int (.cons dn_int (.cons (dn_tup htt .nil) .nil))
   rw [if_neg (by decide)]
   rw [← h_u3, tHold]
   generalize h_u4 : tHold _ = u4
   walk_at "wps"
   have hw3 := S1 _ _ hw
   have htm3 := S1 _ _ htm
   refine fo_rng (lo := 0) (n := 6) (fun k σ H' => (∃ v4, σ = [some (.ref x), some (.ref tm), some (.int side), some (.ref A.S.pw), v4]) ∧ ∃ w', But A.S.pw H3 H' ∧ H' A.S.pw = some (.ins C_Ways A.S.dw (fl_Ways (.int z.sd.L) s sp (.int w'))) ∧ w' ≤ z.sd.L ∧ (w' = z.sd.L ∨ f * 2 ^ k ≤ w')) ⟨⟨_, rfl⟩, f, But.refl, by rw [← ew]; exact hw3, by omega, .inr (by omega)⟩ (fun k σ H' hk hp => ?_) (fun σ H' hp => ?_)
   ·obtain ⟨⟨v4, rfl⟩, w', b1, h1, l1, l2⟩ := hp
    exists h1
    refine ⟨A.S.dw, z.sd.L, s, sp, w', rfl, ⟨_, rfl⟩, _, b1.write, rfl, by split <;> omega, ?_⟩
    rw [Int.pow_succ]
    generalize (2 : Int) ^ k = pk at *
    rcases l2 with l2 | l2
    ·left; split <;> omega
    ·split
     ·exact .inl rfl
     ·right
      have : f * (pk * 2) = 2 * (f * pk) := by rw [Int.mul_comm pk 2, ← Int.mul_assoc, Int.mul_comm f 2, Int.mul_assoc]
      omega
   ·obtain ⟨⟨v4, rfl⟩, w', b1, h1, l1, l2⟩ := hp
    have htm4 := b1 _ _ htm3 (ne_of htm3 hw3 (by simp [fl_Terms, fl_Ways]))
    rw [← h_u4, tHold]
    exists h1, htm4
    have e : w' = l := by
     rcases l2 with l2 | l2
     ·omega
     ·have : f * 2 ^ 6 = f * 64 := by rfl
      omega
    rw [decide_eq_true e]
    refine q H' (fun b u e n => b1 _ _ (S1 _ _ e) fun z => n (by rw [z]; simp [foot]))
  ·exact h.elim
theorem ok__law_step (T : Txt K mg C_Meter C_Ways C_Sender C_Taker C_Hand C_Terms C_RoadError C_NoPiece C_BadTerms C_NotWide C_BadText C_NotNow C_State C_Shut C_Calling C_Leaving)          : FnAt P w K mg base (CX1 P w) "_law_step" 6 ["_law_hand", "_law_name", "_law_due", "_law_cell"] (sp__law_step C_Hand C_Taker C_Sender C_Ways C_Meter C_Shut C_Calling C_Leaving K) := by
 refine T.d__law_step.fn sc__law_step bd__law_step (fun vs H Q E h => ?_) fun f cdv A outer s H vs Q E HR h => ?_
 ·unfold sp__law_step at h; split at h <;> first | rfl | exact h.elim
 ·unfold sp__law_step at h
  split at h
  ·rename_i x n pd c
   refine ⟨_, (QSs.h (qss_cons ⟨(ps_setQ (i := 4) sc__law_step.nd rfl (Or.inl rfl) (pe_ix (ix_B K rfl) (pe_lst (pa_q pe_str (pa_q pe_str (pa_q pe_str (pa_q pe_str (pa_q pe_str (pa_q pe_str pa_nil))))))) (pe_op op_mod (pv 3) pe_int) (fun _ _ => rfl)))⟩
 (qss_hold (qss_cons (qs_if (pt_cmpR (op_eqXK K rfl HR.units) (pv 4) pe_str (nomark _)) (qss_cons (qs_if (pt_q (pe_fnQ (ok__law_bad T) HR (by decide) rfl (pa_q (pv 0) (pa_q (pe_fnQ (ok__law_bad_text T) HR (by decide) rfl (pa_q (pe_op op_fdiv (pv 3) pe_int) pa_nil)) pa_nil)))) (qss_one ⟨(ps_ret (pv 1))⟩) qss_nil)
 (qss_one ⟨(ps_ret pe_non)⟩)) qss_nil)
 (qss_hold (qss_cons ⟨(ps_setQ (i := 5) sc__law_step.nd rfl (Or.inr rfl) (pe_fnQ (ok__law_text T) HR (by decide) rfl (pa_q (pe_op op_fdiv (pv 3) pe_int) (pa_q (pe_op (op_addK K rfl) pe_int (pe_op op_mod (pe_op op_fdiv (pv 3) pe_int) pe_int)) pa_nil))))⟩
 (qss_hold (qss_cons ⟨(ps_setQ (i := 6) sc__law_step.nd rfl (Or.inl rfl) (pe_fnQ (ok__law_after T) HR (by decide) rfl (pa_q (pv 1) (pa_q (pv 4) pa_nil))))⟩
 (qss_hold (qss_cons ⟨(ps_setQ (i := 7) sc__law_step.nd rfl (Or.inl rfl) (pe_fnQ (ok__law_wished T) HR (by decide) rfl (pa_q (pv 0) (pa_q (pv 4) (pa_q (pv 5) pa_nil)))))⟩
 (qss_hold (qss_cons (qs_if (pt_cmpR op_isNA (pv 6) pe_non (nomark _)) (qss_cons (qs_if (pt_cmpR (op_eqXK K rfl HR.units) (pv 7) (pe_tup (pa_q (pv 1) (pa_q (pv 4) (pa_q pe_bl (pa_q pe_bl pa_nil))))) (nomark _)) (qss_one ⟨(ps_ret (pv 1))⟩) qss_nil)
 (qss_one ⟨(ps_ret pe_non)⟩)) qss_nil)
 (qss_hold (qss_mid (qs_if (pt_cmpR (op_eqXK K rfl HR.units) (pv 4) pe_str (nomark _)) (qss_one ⟨(ps_exprQ (pe_bm PySem.F.plainAttrs_list PySem.F.slot_list_extend PySem.F.type_list_extend mt_extend (pv 2) (pa_q (pe_comp (N := (["_law_k", "_law_signs"] : List Str)) (nv := 1) (ix := [5]) rfl (cs_of (by kernel_rfl)) (pj_range3 rfl T.b_range (pa_q pe_int (pa_q (pe_callBQ (call_lenB K rfl) (by rfl) T.b_len bt_len (pa_q (pv 5) pa_nil)) (pa_q pe_int pa_nil)))) (fun _ _ _ _ _ => (pg_name (i := 0) (show ((["_law_k", "_law_signs"] : List Str)).Nodup by decide) rfl (Or.inl rfl))) (fun _ _ _ _ _ => pts_nil) (fun _ _ _ _ _ => (pe_tup (pa_q pe_str (pa_q (pe_slice (sl_K K rfl) (pv 1) (po_some (pv 0)) (po_some (pe_op (op_addK K rfl) (pv 0) pe_int))) pa_nil))))) pa_nil)))⟩) (qss_one ⟨(ps_exprQ (pe_appendK K rfl (pv 2) (pe_tup (pa_q (pv 4) (pa_q pe_str pa_nil)))))⟩))
 (qss_hold (qss_cons (qs_if (pt_cmpR (op_eqXK K rfl HR.units) (pv 7) pe_str (nomark _)) (qss_one ⟨(ps_ret (pv 6))⟩) qss_nil)
 (qss_one ⟨(ps_ret pe_non)⟩))))))))))))))))), ?_⟩
   obtain ⟨A, z, vs, hH, rfl, hn, hT, hE, hd, lv, npd, q⟩ := h
   generalize h_u1 : tHold _ = u1
   walk_at "wps"
   have S0 : Same H H := Same.refl H
   intro p0 n_p0
   have e_p0 := upd_same (H := H) (a := p0) (o := (.lst [.str "begin", .str "end", .str "put", .str "put", .str "put", .str "bad"]))
   have s_p0 := same_upd (H := H) (o := (.lst [.str "begin", .str "end", .str "put", .str "put", .str "put", .str "bad"])) n_p0
   replace hd := s_p0 _ _ hd
   replace S0 := S0.trans s_p0
   generalize upd H p0 ((.lst [.str "begin", .str "end", .str "put", .str "put", .str "put", .str "bad"])) = H1 at *
   obtain ⟨w1, e1, hw⟩ : ∃ w1 : Str, atI [V.str (Str.ofString "begin"), V.str (Str.ofString "end"), V.str (Str.ofString "put"), V.str (Str.ofString "put"), V.str (Str.ofString "put"), V.str (Str.ofString "bad")] (c % 6) = some (.str w1) ∧ (w1 = "bad" ∨ w1 = "begin" ∨ w1 = "end" ∨ w1 = "put") := by
    obtain e | e | e | e | e | e : c % 6 = 0 ∨ c % 6 = 1 ∨ c % 6 = 2 ∨ c % 6 = 3 ∨ c % 6 = 4 ∨ c % 6 = 5 := by omega
    ·rw [e]; exact ⟨_, atI_0, .inr (.inl rfl)⟩
    ·rw [e]; exact ⟨_, atI_1, .inr (.inr (.inl rfl))⟩
    ·rw [e]; exact ⟨_, atI_2, .inr (.inr (.inr rfl))⟩
    ·rw [e]; exact ⟨_, atI_3, .inr (.inr (.inr rfl))⟩
    ·rw [e]; exact ⟨_, atI_4, .inr (.inr (.inr rfl))⟩
    ·rw [e]; exact ⟨_, atI_5, .inl rfl⟩
   refine ⟨_, e1, ?_⟩
   have h1 := hH.same S0
   rw [← h_u1, tHold]
   generalize h_u2 : tHold _ = u2
   walk_at "wps"
   have hd0 := hd
   have same_q : ∀ H', Same H1 H' → Q (.str z.nm) H' := fun H' S' => q z.nm A.st [] [] [] z.ends H' (Kp.of (S0.trans S')) hn (by omega) (by simp) (by rw [List.append_nil]; exact h1.same S') .nil (by rw [List.append_nil]; exact S' _ _ hd) .nil
   by_cases cb : w1 = Str.ofString "bad"
   ·rw [if_pos cb]
    exact fun z1 H2 S2 l1 tb => ⟨A, z, h1.same S2, hT, l1, tb, fun H3 S3 => same_q H3 (S2.trans S3)⟩
   rw [if_neg cb]
   replace hw : w1 = "begin" ∨ w1 = "end" ∨ w1 = "put" := by
    rcases hw with e | e
    ·exact absurd e cb
    ·exact e
   rw [← h_u2, tHold]
   generalize h_u3 : tHold _ = u3
   walk_at "wps"
   refine ⟨by omega, fun t1 H2 S2 lt ct => ?_⟩
   have tb : textB t1 = true := text_ok (by omega) (by omega) ct
   have h2 := h1.same S2
   have hd2 := S2 _ _ hd
   rw [← h_u3, tHold]
   generalize h_u4 : tHold _ = u4
   walk_at "wps"
   rw [← h_u4, tHold]
   generalize h_u5 : tHold _ = u5
   walk_at "wps"
   refine ⟨A, z, h2, hT, hE, by omega, tb, hw, fun hm st' vs2 es H3 k3 le h3 p3 => ?_, fun hm p3 H3 S3 hp3 => ?_⟩
   rotate_left
   ·have ea : aftV z.nm w1 = .non := by
     rcases aft_may hn hw with ⟨m, _⟩ | ⟨_, e⟩
     ·rw [hm] at m; cases m
     ·exact e
    rw [ea]
    rw [← h_u5, tHold]
    walk_at "wps"
    intro p4 hp4
    have e3 := upd_old (o := .tup [.str z.nm, .str w1, .bl true, .bl false]) hp3 hp4
    have pr : ∀ {H : Hp}, Paired (Dn K H 0) [.str z.nm, .str w1, .bl true, .bl false] [.str z.nm, .str w1, .int 1, .int 0] := .cons dn_str (.cons dn_str (.cons dn_bl (.cons dn_bl .nil)))
    refine ⟨1, _, _, by decide, dn_tup e3 pr, dn_tup upd_same pr, .inl ⟨rfl, _, rfl, ?_⟩⟩
    rw [if_pos (by decide)]
    exact same_q _ (S2.trans (S3.trans (same_upd hp4)))
   obtain ⟨ea, en⟩ : aftV z.nm w1 = .str (nxt z.nm w1) ∧ (nxt z.nm w1 = "shut" ∨ nxt z.nm w1 = "calling" ∨ nxt z.nm w1 = "leaving") := by
    rcases aft_may hn hw with ⟨_, m⟩ | ⟨e, _⟩
    ·exact m
    ·rw [hm] at e; cases e
   rw [ea]
   rw [← h_u5, tHold]
   generalize h_u6 : tHold _ = u6
   walk_at "wps"
   rw [← h_u6, tHold]
   generalize h_u7 : tHold _ = u7
   have hd3 := k3 _ _ hd2 npd
   have l60 : t1.length ≤ 60 := by omega
   refine ⟨fun σ' H' => ∃ ds, σ' = [some (.ref x), some (.str z.nm), some (.ref pd), some (.int c), some (.str w1), some (.str t1), some (.str (nxt z.nm w1)), some (.str "ok")] ∧ Kp [pd] H3 H' ∧ H' pd = some (.lst (vs ++ ds)) ∧ Paired (ThK K H') ds (thOf w1 t1), ?_, ?_⟩
   ·exists hd3
    by_cases cp : w1 = Str.ofString "put"
    ·rw [if_pos cp]
     refine ⟨tyV_list (SqL.of hd3), by rw [sizeLine_eq]; omega, ⟨by omega, by omega⟩, ?_⟩
     rw [show rcount 0 (t1.length : Int) 4 = (t1.length + 3) / 4 by unfold rcount Builtin.Range.rangeSize; rw [if_pos (by decide)]; split <;> omega]
     refine co_rngSH (fun k ys σ H' => (∃ v0, σ = [v0, some (.str t1)]) ∧ ys.length = k ∧ Same H3 H' ∧ Paired (fun v s => ThV H' v "signs" s) ys ((List.range k).map (chunk t1))) ⟨⟨_, rfl⟩, rfl, Same.refl _, .nil⟩ (by rw [sizeLine_eq]; omega) (fun i ys σ H h => by rw [h.2.1]; exact Nat.le_refl _) (fun k ys σ H' hk hp => ?_) (fun ys σ H' hp => ?_)
     ·obtain ⟨⟨v0, rfl⟩, ly, Sk, pk⟩ := hp
      walk_at "wps"
      refine ⟨by rw [sizeLine_eq]; omega, fun p hp => ?_⟩
      rw [show Txt.slice t1 (some (0 + (k : Int) * 4)) (some (0 + (k : Int) * 4 + 4)) = chunk t1 k by unfold chunk; rw [show (0 : Int) + (k : Int) * 4 = ((4 * k : Nat) : Int) by omega]; rfl]
      refine ⟨⟨_, rfl⟩, by rw [List.length_append, ly]; rfl, Sk.trans (same_upd hp), ?_⟩
      rw [List.range_succ, List.map_append]
      refine pr_app (pr_imp pk fun v s hv => ?_) (.cons ⟨p, rfl, upd_same⟩ .nil)
      obtain ⟨q, rfl, hq⟩ := hv
      exact ⟨q, rfl, upd_old hq hp⟩
     ·obtain ⟨⟨v0, rfl⟩, ly, Sk, pk⟩ := hp
      refine ⟨by rw [sizeLine_eq]; omega, fun l5 hl5 => ?_⟩
      have hd5 := upd_old (o := .lst ys) (Sk _ _ hd3) hl5
      refine ⟨pd, l5, vs, ys, rfl, rfl, hd5, upd_same, by rw [sizeLine_eq]; omega, ys, ?_, upd_same, ?_⟩
      ·exact (Kp.of (Sk.trans (same_upd hl5))).trans Kp.one
      ·rw [show thOf w1 t1 = (chunks t1).map fun s => ((Str.ofString "signs", s) : Str × Str) from if_pos cp]
       refine pr_mapr (pr_imp pk fun v s hv => ?_)
       obtain ⟨q, rfl, hq⟩ := hv
       refine ⟨q, rfl, SqT.of ?_⟩
       have hq5 := upd_old (o := .lst ys) hq hl5
       rw [upd_ne (ne_of hq5 hd5 (by simp))]
       exact hq5
    ·rw [if_neg cp]
     refine ⟨tyV_list (SqL.of hd3), ?_⟩
     intro p5 n_p5
     have e_p5 := upd_same (H := H3) (a := p5) (o := (.tup [.str w1, .str (Str.ofString "")]))
     have s_p5 := same_upd (H := H3) (o := (.tup [.str w1, .str (Str.ofString "")])) n_p5
     replace hd3 := s_p5 _ _ hd3
     generalize upd H3 p5 ((.tup [.str w1, .str (Str.ofString "")])) = H5 at *
     refine ⟨_, hd3, by rw [sizeLine_eq]; omega, [.ref p5], ?_, rfl, ?_⟩
     ·exact (Kp.of s_p5).trans Kp.one
     ·rw [show thOf w1 t1 = [((w1, Str.ofString "") : Str × Str)] from if_neg cp]
      exact .cons ⟨p5, rfl, SqT.of (by rw [upd_ne (ne_of e_p5 hd3 (by simp))]; exact e_p5)⟩ .nil
   rintro σ' H4 ⟨ds, rfl, k4, hd4, pd4⟩
   rw [← h_u7, tHold]
   walk_at "wps"
   have lt15 : (thOf w1 t1).length ≤ 15 := by
    unfold thOf
    split
    ·rw [List.length_map]; unfold chunks; rw [List.length_map, List.length_range]; omega
    ·simp
   have im : ∀ b o, H3 b = some o → Imm o → b ∉ [pd] := fun b o e i m => by
    rw [List.mem_singleton.mp m, hd3] at e
    cases e
    exact imm_lst i
   refine q (nxt z.nm w1) st' vs2 ds (thOf w1 t1) es H4 ?_ en le lt15 (h3.kp k4 (fun b hb m => npd (by rw [← List.mem_singleton.mp m]; exact hb)) im) (pr_imp p3 fun v s hv => hv.keep fun p o e i => k4 _ _ e (im _ _ e i)) hd4 pd4
   intro b o e n
   exact k4 b o (k3 b o (S2 _ _ (S0 _ _ e)) (fun m => n (List.mem_cons_of_mem _ m))) (fun m => n (by rw [List.mem_singleton.mp m]; exact List.mem_cons_self ..))
  ·exact h.elim
theorem ok_law (T : Txt K mg C_Meter C_Ways C_Sender C_Taker C_Hand C_Terms C_RoadError C_NoPiece C_BadTerms C_NotWide C_BadText C_NotNow C_State C_Shut C_Calling C_Leaving) : FnAt P w K mg base CX0 "law" 7 ["_law_script"] (spLaw K) := by
 refine T.d_law.fn sc_law bd_law (fun vs H Q E h => ?_) fun f cdv A outer s H vs Q E HR h => ?_
 ·unfold spLaw at h; split at h <;> first | rfl | exact h.elim
 ·unfold spLaw at h
  split at h
  ·rename_i a
   obtain ⟨ns, hS, hl, _, q⟩ := h
   refine ⟨_, (QSs.h (qss_cons ⟨(ps_setQ (i := 1) sc_law.nd rfl (Or.inl rfl) (pe_fnQ (ok__law_terms T) HR (by decide) rfl (pa_q (pe_fnQ (ok__law_cell_at T a ns) HR (by decide) rfl (pa_q (pv 0) (pa_q pe_int pa_nil))) (pa_q (pe_fnQ (ok__law_cell_at T a ns) HR (by decide) rfl (pa_q (pv 0) (pa_q pe_int pa_nil))) pa_nil))))⟩
 (qss_hold (qss_cons (qs_setQ (i := 2) sc_law.nd rfl (Or.inl rfl) (qe_lst (qa_q ⟨(pe_mkC T.k_Hand (ok_Hand___init__ T) HR (by decide) rfl (pa_q pe_int (pa_q (pv 1) pa_nil)))⟩ (qa_q ⟨(pe_mkC T.k_Hand (ok_Hand___init__ T) HR (by decide) rfl (pa_q pe_int (pa_q (pv 1) pa_nil)))⟩ qa_nil))))
 (qss_hold (qss_cons (qs_setQ (i := 3) sc_law.nd rfl (Or.inl rfl) (qe_lst (qa_q ⟨pe_str⟩ (qa_q ⟨pe_str⟩ qa_nil))))
 (qss_cons (qs_setQ (i := 4) sc_law.nd rfl (Or.inl rfl) (qe_lst (qa_q (qe_lst qa_nil) (qa_q (qe_lst qa_nil) qa_nil))))
 (qss_hold (qss_cons ⟨(ps_for PassesOwn.never rfl (pi_seqK K rfl (pe_op (op_addK K rfl) (pe_lst (pa_q pe_int pa_nil)) (pe_slice (sl_K K rfl) (pv 0) (po_some pe_int) (po_some pe_int)))) (pg_name (i := 5) sc_law.nd rfl (Or.inl rfl)) (pss_cons (ps_setQ (i := 6) sc_law.nd rfl (Or.inl rfl) (pe_op op_mod (pe_op op_fdiv (pv 5) pe_int) pe_int))
 (pss_hold (pss_cons (ps_asgQ (pe_fnQ (ok__law_step T) HR (by decide) rfl (pa_q (pe_ix (ix_B K rfl) (pv 2) (pv 6) (fun _ _ => rfl)) (pa_q (pe_ix (ix_B K rfl) (pv 3) (pv 6) (fun _ _ => rfl)) (pa_q (pe_ix (ix_B K rfl) (pv 4) (pv 6) (fun _ _ => rfl)) (pa_q (pv 5) pa_nil))))) (pg_subQ (pv 3) (pv 6) set_A))
 (pss_hold (pss_one (ps_for PassesOwn.never rfl (pj_range1 rfl T.b_range (pa_q pe_int pa_nil)) (pg_name (i := 7) sc_law.nd rfl (Or.inl rfl)) (pss_cons (ps_if (PW.pt (pw_or (pt_cmpR op_isNA (pe_ix (ix_B K rfl) (pv 3) (pv 7) (fun _ _ => rfl)) pe_non (nomark _)) (pw_or (pt_cmpR (op_neXK K rfl HR.units) (pe_mtC0 (pe_ix (ix_B K rfl) (pv 2) (pv 7) (fun _ _ => rfl)) T.k_Hand (ok_Hand_name T) HR (by decide)) (pe_ix (ix_B K rfl) (pv 3) (pv 7) (fun _ _ => rfl)) (nomark _)) (pw_or1 (pt_cmpR (op_neXK K rfl HR.units) (pe_fldC (pe_ix (ix_B K rfl) (pv 2) (pv 7) (fun _ _ => rfl)) T.k_Hand T.n_Hand_side rfl) (pv 7) (nomark _)))))) (pss_one (ps_ret pe_bl)) pss_nil)
 (pss_one (ps_if (PW.pt (pw_or (pt_not (pt_q (pe_fnQ (ok__law_put T) HR (by decide) rfl (pa_q (pe_ix (ix_B K rfl) (pv 2) (pv 7) (fun _ _ => rfl)) (pa_q (pe_ix (ix_B K rfl) (pv 4) (pv 7) (fun _ _ => rfl)) pa_nil))))) (pw_or1 (pt_cmpR (op_eqXK K rfl HR.units) (pe_mtC0 (pe_ix (ix_B K rfl) (pv 2) (pv 7) (fun _ _ => rfl)) T.k_Hand (ok_Hand_quiet T) HR (by decide)) (pe_cmpR (op_neXK K rfl HR.units) (pe_ix (ix_B K rfl) (pv 4) (pv 7) (fun _ _ => rfl)) (pe_lst pa_nil) (nomark _)) (nomark _))))) (pss_one (ps_ret pe_bl)) pss_nil))))))))))⟩
 (qss_hold (qss_one ⟨(ps_ret (pe_and (pe_fnQ (ok__law_made_by T) HR (by decide) rfl (pa_q (pe_ix (ix_B K rfl) (pv 2) pe_int (fun _ _ => rfl)) (pa_q (pv 1) (pa_q pe_int pa_nil)))) (pe_one (pe_fnQ (ok__law_made_by T) HR (by decide) rfl (pa_q (pe_ix (ix_B K rfl) (pv 2) pe_int (fun _ _ => rfl)) (pa_q (pv 1) (pa_q pe_int pa_nil)))))))⟩))))))))))), ?_⟩
   generalize h_ua : tHold _ = ua
   walk_at "wps"
   refine ⟨hS, fun n0 => ⟨hS, fun n1 tm r o t g f l H1 S1 htm hw => ?_⟩⟩
   rw [← h_ua, tHold]
   generalize h_ub : tHold _ = ub
   walk_at "wps"
   intro x0 dx0 nx0 nd0 ne0
   have Sx0 := same_new (C := C_Hand) (fs := []) nx0 nd0
   refine ⟨dx0, r, o, t, g, f, l, rfl, htm.same Sx0, hw.1, fun A0 H2 b2 fr2 hh0 x1 dx1 nx1 nd1 ne1 => ?_⟩
   have S2 : Same H1 H2 := fun b u e => b2 _ _ (Sx0 _ _ e) (ne_of_none e nx0)
   have fr2' : ∀ b, b ∈ foot x0 A0 → H1 b = none := fun b hb => by
    rcases List.mem_cons.mp hb with e | hb
    ·rw [e]; exact nx0
    ·exact free_of Sx0 (fr2 b hb)
   have Sx1 := same_new (C := C_Hand) (fs := []) nx1 nd1
   refine ⟨dx1, r, o, t, g, f, l, rfl, (htm.same S2).same Sx1, hw.1, fun A1 H3 b3 fr3 hh1 => ?_⟩
   have S3 : Same H2 H3 := fun b u e => b3 _ _ (Sx1 _ _ e) (ne_of_none e nx1)
   have fr3' : ∀ b, b ∈ foot x1 A1 → H2 b = none := fun b hb => by
    rcases List.mem_cons.mp hb with e | hb
    ·rw [e]; exact nx1
    ·exact free_of Sx1 (fr3 b hb)
   have fx : ∀ b, b ∈ foot x0 A0 → b ∉ foot x1 A1 := fun b hb m => hh0.fresh (fr3' b m) hb
   have tm0 : tm ∉ foot x0 A0 ∧ tm ∉ foot x1 A1 := by
    obtain ⟨dt, pt, e1, e2⟩ := htm
    exact ⟨(fun m => by rw [fr2' _ m] at e1; cases e1), (fun m => by have e3 := S2 _ _ e1; rw [fr3' _ m] at e3; cases e3)⟩
   replace hh0 := hh0.same S3
   clear Sx0 Sx1 b2 b3 fr2 fr3 nx0 nd0 ne0 nx1 nd1 ne1
   have S4 : Same H H3 := S1.trans (S2.trans S3)
   replace htm := (htm.same S2).same S3
   have fr : ∀ {Hx : Hp} {p : Addr}, Same H3 Hx → Hx p = none → p ∉ foot x0 A0 ∧ p ∉ foot x1 A1 ∧ p ≠ tm := fun {Hx p} sx e => by
    have e3 := free_of sx e
    obtain ⟨dt, pt, e1, e2⟩ := htm
    exact ⟨hh0.fresh e3, hh1.fresh e3, fun z => by rw [z, e1] at e3; cases e3⟩
   have R4 : Same H3 H3 := Same.refl _
   intro ph n_ph
   have e_ph := upd_same (H := H3) (a := ph) (o := (.lst [.ref x0, .ref x1]))
   have s_ph := same_upd (H := H3) (o := (.lst [.ref x0, .ref x1])) n_ph
   replace S4 := S4.trans s_ph
   replace R4 := R4.trans s_ph
   generalize upd H3 ph ((.lst [.ref x0, .ref x1])) = H4 at *
   rw [← h_ub, tHold]
   generalize h_uc : tHold _ = uc
   walk_at "wps"
   have c_ph := e_ph
   have R4' := R4
   intro pn n_pn
   have e_pn := upd_same (H := H4) (a := pn) (o := (.lst [.str "shut", .str "shut"]))
   have s_pn := same_upd (H := H4) (o := (.lst [.str "shut", .str "shut"])) n_pn
   replace e_ph := s_pn _ _ e_ph
   replace S4 := S4.trans s_pn
   replace R4 := R4.trans s_pn
   generalize upd H4 pn ((.lst [.str "shut", .str "shut"])) = H5 at *
   have c_ph5 := e_ph
   have c_pn5 := e_pn
   have R5' := R4
   intro pd0 n_pd0
   have e_pd0 := upd_same (H := H5) (a := pd0) (o := (.lst []))
   have s_pd0 := same_upd (H := H5) (o := (.lst [])) n_pd0
   replace e_ph := s_pd0 _ _ e_ph
   replace e_pn := s_pd0 _ _ e_pn
   replace S4 := S4.trans s_pd0
   replace R4 := R4.trans s_pd0
   generalize upd H5 pd0 ((.lst [])) = H6 at *
   have c_ph6 := e_ph
   have c_pn6 := e_pn
   have c_d06 := e_pd0
   have R6' := R4
   intro pd1 n_pd1
   have e_pd1 := upd_same (H := H6) (a := pd1) (o := (.lst []))
   have s_pd1 := same_upd (H := H6) (o := (.lst [])) n_pd1
   replace e_ph := s_pd1 _ _ e_ph
   replace e_pn := s_pd1 _ _ e_pn
   replace e_pd0 := s_pd1 _ _ e_pd0
   replace S4 := S4.trans s_pd1
   replace R4 := R4.trans s_pd1
   generalize upd H6 pd1 ((.lst [])) = H7 at *
   have c_ph7 := e_ph
   have c_pn7 := e_pn
   have c_d07 := e_pd0
   have c_d17 := e_pd1
   have R7' := R4
   intro pds n_pds
   have e_pds := upd_same (H := H7) (a := pds) (o := (.lst [.ref pd0, .ref pd1]))
   have s_pds := same_upd (H := H7) (o := (.lst [.ref pd0, .ref pd1])) n_pds
   replace e_ph := s_pds _ _ e_ph
   replace e_pn := s_pds _ _ e_pn
   replace e_pd0 := s_pds _ _ e_pd0
   replace e_pd1 := s_pds _ _ e_pd1
   replace S4 := S4.trans s_pds
   replace R4 := R4.trans s_pds
   generalize upd H7 pds ((.lst [.ref pd0, .ref pd1])) = H8 at *
   have f1 := fr (Same.refl _) n_ph
   have f2 := fr R4' n_pn
   have f3 := fr R5' n_pd0
   have f4 := fr R6' n_pd1
   have f5 := fr R7' n_pds
   have nod : (F63 x0 x1 A0 A1 pd0 pd1 pn ph pds).Nodup := by
    unfold F63
    refine List.nodup_append.mpr ⟨hh0.nd, List.nodup_append.mpr ⟨hh1.nd, ?_, ?_⟩, ?_⟩
    ·have a1 : pd0 ≠ pd1 := ne_of_none c_d06 n_pd1
     have a2 : pd0 ≠ pn := (ne_of_none c_pn5 n_pd0).symm
     have a3 : pd0 ≠ ph := (ne_of_none c_ph5 n_pd0).symm
     have a4 : pd0 ≠ pds := ne_of_none c_d07 n_pds
     have a5 : pd1 ≠ pn := (ne_of_none c_pn6 n_pd1).symm
     have a6 : pd1 ≠ ph := (ne_of_none c_ph6 n_pd1).symm
     have a7 : pd1 ≠ pds := ne_of_none c_d17 n_pds
     have a8 : pn ≠ ph := (ne_of_none c_ph n_pn).symm
     have a9 : pn ≠ pds := ne_of_none c_pn7 n_pds
     have a10 : ph ≠ pds := ne_of_none c_ph7 n_pds
     simp [a1, a2, a3, a4, a5, a6, a7, a8, a9, a10]
    ·intro b hb c hc e
     subst e
     simp only [List.mem_cons, List.not_mem_nil, or_false] at hc
     rcases hc with z | z | z | z | z <;> subst z
     ·exact f3.2.1 hb
     ·exact f4.2.1 hb
     ·exact f2.2.1 hb
     ·exact f1.2.1 hb
     ·exact f5.2.1 hb
    ·intro b hb c hc e
     subst e
     rcases List.mem_append.mp hc with hc | hc
     ·exact fx b hb hc
     simp only [List.mem_cons, List.not_mem_nil, or_false] at hc
     rcases hc with z | z | z | z | z <;> subst z
     ·exact f3.1 hb
     ·exact f4.1 hb
     ·exact f2.1 hb
     ·exact f1.1 hb
     ·exact f5.1 hb
   have itm : tm ∉ F63 x0 x1 A0 A1 pd0 pd1 pn ph pds := by
    intro m
    rcases List.mem_append.mp m with m | m
    ·exact tm0.1 m
    rcases List.mem_append.mp m with m | m
    ·exact tm0.2 m
    simp only [List.mem_cons, List.not_mem_nil, or_false] at m
    rcases m with z | z | z | z | z
    ·exact f3.2.2 z.symm
    ·exact f4.2.2 z.symm
    ·exact f2.2.2 z.symm
    ·exact f1.2.2 z.symm
    ·exact f5.2.2 z.symm
   have I0 : I63 C_Hand C_Taker C_Sender C_Ways C_Meter C_Terms (tbl C_Shut C_Calling C_Leaving) K x0 x1 A0 A1 pd0 pd1 pn ph pds tm r o t g f l H8 "shut" "shut" [] [] [] [] 0 :=
    ⟨hh0.same R4, hh1.same R4, ⟨[], [], e_pd0, .nil, .nil, Nat.le_refl _⟩, ⟨[], [], e_pd1, .nil, .nil, Nat.le_refl _⟩, .inl rfl, .inl rfl, Nat.le_refl _, Nat.le_refl _, e_pn, e_ph, e_pds, htm.same R4, nod, itm⟩
   clear nod itm f1 f2 f3 f4 f5 c_ph7 c_pn7 c_d07 c_d17 R7' c_ph6 c_pn6 c_d06 R6' c_ph5 c_pn5 R5' R4' c_ph e_ph e_pn e_pd0 e_pd1 e_pds n_ph n_pn n_pd0 n_pd1 n_pds s_ph s_pn s_pd0 s_pd1 s_pds fr hh0 hh1 htm fx tm0 R4 S1 S2 S3 fr2' fr3'
   rw [← h_uc, tHold]
   generalize h_ud : tHold _ = ud
   walk_at "wps"
   have hS8 := same_lst S4 hS
   have hS8' := hS8
   have R8 : Same H8 H8 := Same.refl _
   intro p9 n_p9
   have e_p9 := upd_same (H := H8) (a := p9) (o := (.lst [.int 0]))
   have s_p9 := same_upd (H := H8) (o := (.lst [.int 0])) n_p9
   replace S4 := S4.trans s_p9
   replace R8 := R8.trans s_p9
   generalize upd H8 p9 ((.lst [.int 0])) = H9 at *
   refine rSlA_list (same_lst S4 hS) ?_
   obtain ⟨ms, em, hms⟩ := cut_le (ns := ns) (lo := some 2) (hi := some 62)
   rw [em]
   intro p10 n_p10
   have e_p10 := upd_same (H := H9) (a := p10) (o := (.lst (ms.map V.int)))
   have s_p10 := same_upd (H := H9) (o := (.lst (ms.map V.int))) n_p10
   replace e_p9 := s_p10 _ _ e_p9
   replace S4 := S4.trans s_p10
   replace R8 := R8.trans s_p10
   generalize upd H9 p10 ((.lst (ms.map V.int))) = H10 at *
   refine addA_lists e_p9 e_p10 (by rw [List.length_map, sizeLine_eq]; simp; omega) ?_
   have R10 := R8
   intro p11 n_p11
   have e_p11 := upd_same (H := H10) (a := p11) (o := (.lst ([V.int 0] ++ ms.map V.int)))
   have s_p11 := same_upd (H := H10) (o := (.lst ([V.int 0] ++ ms.map V.int))) n_p11
   replace S4 := S4.trans s_p11
   replace R8 := R8.trans s_p11
   generalize upd H10 p11 ((.lst ([V.int 0] ++ ms.map V.int))) = H11 at *
   have I1 := I0.same R8
   have np : p11 ∉ F63 x0 x1 A0 A1 pd0 pd1 pn ph pds := fun m => by
    have e := free_of R10 n_p11
    obtain ⟨v0, _, q0, _⟩ := I0.d0
    obtain ⟨v1, _, q1, _⟩ := I0.d1
    rcases List.mem_append.mp m with m | m
    ·exact I0.h0.fresh e m
    rcases List.mem_append.mp m with m | m
    ·exact I0.h1.fresh e m
    simp only [List.mem_cons, List.not_mem_nil, or_false] at m
    rcases m with z | z | z | z | z
    ·rw [z, q0] at e; cases e
    ·rw [z, q1] at e; cases e
    ·rw [z, I0.hn] at e; cases e
    ·rw [z, I0.hh] at e; cases e
    ·rw [z, I0.hd] at e; cases e
   rw [show [V.int 0] ++ ms.map V.int = ((0 : Int) :: ms).map V.int from rfl] at e_p11
   clear I0 R8 R10 n_p9 s_p9 n_p10 s_p10 n_p11 s_p11 e_p9 e_p10 hS8 hS8'
   refine fo_list (xs := ((0 : Int) :: ms).map V.int) (SqL.of e_p11) (fun i σ H' => H' p11 = some (.lst (((0 : Int) :: ms).map V.int)) ∧ ∃ s0 s1 nm0 nm1 T0 T1 e0 e1 v5 v6 v7, I63 C_Hand C_Taker C_Sender C_Ways C_Meter C_Terms (tbl C_Shut C_Calling C_Leaving) K x0 x1 { A0 with st := s0 } { A1 with st := s1 } pd0 pd1 pn ph pds tm r o t g f l H' nm0 nm1 T0 T1 e0 e1 i ∧ σ = [some (.ref a), some (.ref tm), some (.ref ph), some (.ref pn), some (.ref pds), v5, v6, v7]) ⟨e_p11, A0.st, A1.st, _, _, _, _, _, _, _, _, _, I1, rfl⟩ (fun i σ H' _ hp => SqL.of hp.1) (fun i y σ H12 hy hp => ?_) (fun σ H12 hp => ?_)
   ·obtain ⟨hl12, s0, s1, nm0, nm1, T0, T1, e0, e1, v5, v6, v7, I, rfl⟩ := hp
    obtain ⟨c, rfl, _⟩ := map_int_get hy
    have hi : i ≤ 63 := by
     have := (List.getElem?_eq_some_iff.mp hy).1
     rw [List.length_map, List.length_cons] at this
     omega
    generalize hD : ({ nx := _, rt := _, bk := _, ct := _ } : Ends) = D
    walk_at "wps"
    rw [← h_ud, tHold]
    generalize h_ue : tHold _ = ue
    have tail : ∀ (H13 : Hp) (s0 s1 : Addr) (nm0 nm1 : Str) (T0 T1 : List V) (e0 e1 : List Int), H13 p11 = some (.lst (((0 : Int) :: ms).map V.int)) → I63 C_Hand C_Taker C_Sender C_Ways C_Meter C_Terms (tbl C_Shut C_Calling C_Leaving) K x0 x1 { A0 with st := s0 } { A1 with st := s1 } pd0 pd1 pn ph pds tm r o t g f l H13 nm0 nm1 T0 T1 e0 e1 (i + 1) → ue D [some (.ref a), some (.ref tm), some (.ref ph), some (.ref pn), some (.ref pds), some (.int c), some (.int (c / 6 % 2)), v7] H13 := by
     clear I nm0 nm1 T0 T1 e0 e1 s0 s1 hl12
     intro H13 s0 s1 nm0 nm1 T0 T1 e0 e1 hl13 I
     rw [← h_ue, tHold]
     walk_at "wps"
     refine fo_rng (lo := 0) (n := 2) (fun k σ H' => Same H13 H' ∧ ∃ v7, σ = [some (.ref a), some (.ref tm), some (.ref ph), some (.ref pn), some (.ref pds), some (.int c), some (.int (c / 6 % 2)), v7]) ⟨Same.refl _, _, rfl⟩ (fun k σ H' hk hp => ?_) (fun σ H' hp => ?_)
     ·obtain ⟨Sk, v7, rfl⟩ := hp
      replace I := I.same Sk
      have key : ∀ {pd : Addr} {T : List V}, D63 K H' pd T (i + 1) → ∃ ds : List Dt, ds.length = T.length ∧ (∀ Hx, Same H' Hx → Dn K Hx 2 (.ref pd) (.l ds)) ∧ ∃ vs ths, H' pd = some (.lst vs) ∧ Paired (ThK K H') vs ths ∧ Paired (ThK K H') T ths ∧ ths.length ≤ 1000 := fun {pd T} h => by
       obtain ⟨vs, ths, h1, h2, h3, h4⟩ := h
       have pd' : ∀ Hx, Same H' Hx → Paired (Dn K Hx 1) vs (ths.map fun t => Dt.t [.str t.1, .str t.2]) := fun Hx sx => pr_mapr (pr_imp h2 fun v t q => by
        obtain ⟨p, rfl, q⟩ := q
        exact .inr (.inr ⟨p, _, _, rfl, rfl, same_tup sx q, .cons dn_str (.cons dn_str .nil)⟩))
       exact ⟨_, by rw [List.length_map, pr_len h3], fun Hx sx => dn_lst (sx _ _ h1) (pd' Hx sx), vs, ths, h1, h2, h3, by omega⟩
      obtain rfl | rfl : k = 0 ∨ k = 1 := by omega
      ·obtain ⟨ds, d1, d2, vs, ths, b1, b2, b3, b4⟩ := key I.d0
       rw [show (0 : Int) + ((0 : Nat) : Int) = 0 from rfl]
       have lT := pr_len b3
       exists I.hh, I.hn, I.hd, I.h0.hx
       refine ⟨_, _, I.h0, ?_⟩
       rw [if_neg (show ¬ ¬ (z63 0 r o t f l nm0 T0 e0).nm = nm0 from not_not_intro rfl), if_neg (show ¬ ¬ (z63 0 r o t f l nm0 T0 e0).side = 0 from not_not_intro rfl)]
       refine ⟨_, _, vs, ths, I.h0, b1, b2, b3, rfl, rfl, rfl, b4, _, _, I.h0, fun p hp => ?_⟩
       have d3 := d2 _ (same_upd (o := .lst []) hp)
       have e1 : (decide ((0 : Int) = 0) && decide ((0 : Int) = (T0.length : Int)) && !false) = decide (T0.length = 0) := by
        rw [decide_eq_true rfl, Bool.true_and, Bool.not_false, Bool.and_true]
        by_cases z : T0.length = 0
        ·rw [decide_eq_true z, decide_eq_true (by omega)]
        ·rw [decide_eq_false z, decide_eq_false (by omega)]
       show rEqX K true (.ref pd0) (.ref p) (upd H' p (.lst [])) fun y H2 => rEqX K false (.bl (decide ((0 : Int) = 0) && decide ((0 : Int) = (T0.length : Int)) && !false)) y H2 _
       rw [e1]
       by_cases z : ds = []
       ·refine ⟨2, _, _, by decide, d3, (dn_lst (n := 0) upd_same .nil).up (by decide), .inl ⟨by rw [z], ?_⟩⟩
        have z' : T0.length = 0 := by rw [← d1, z]; rfl
        rw [decide_eq_true z']
        show rEqX K false (.bl true) (.bl false) _ _
        rw [rEqX_bl]
        refine ⟨_, rfl, ?_⟩
        rw [if_neg (by decide)]
        exact ⟨Sk.trans (same_upd hp), _, rfl⟩
       ·refine ⟨2, _, _, by decide, d3, (dn_lst (n := 0) upd_same .nil).up (by decide), .inr ⟨fun e => z (Dt.l.inj e), ?_⟩⟩
        have z' : ¬ T0.length = 0 := fun e => z (List.length_eq_zero_iff.mp (by rw [d1, e]))
        rw [decide_eq_false z']
        show rEqX K false (.bl false) (.bl true) _ _
        rw [rEqX_bl]
        refine ⟨_, rfl, ?_⟩
        rw [if_neg (by decide)]
        exact ⟨Sk.trans (same_upd hp), _, rfl⟩
      ·obtain ⟨ds, d1, d2, vs, ths, b1, b2, b3, b4⟩ := key I.d1
       rw [show (0 : Int) + ((1 : Nat) : Int) = 1 from rfl]
       have lT := pr_len b3
       exists I.hh, I.hn, I.hd, I.h1.hx
       refine ⟨_, _, I.h1, ?_⟩
       rw [if_neg (show ¬ ¬ (z63 1 r t o f l nm1 T1 e1).nm = nm1 from not_not_intro rfl), if_neg (show ¬ ¬ (z63 1 r t o f l nm1 T1 e1).side = 1 from not_not_intro rfl)]
       refine ⟨_, _, vs, ths, I.h1, b1, b2, b3, rfl, rfl, rfl, b4, _, _, I.h1, fun p hp => ?_⟩
       have d3 := d2 _ (same_upd (o := .lst []) hp)
       have e1 : (decide ((0 : Int) = 0) && decide ((0 : Int) = (T1.length : Int)) && !false) = decide (T1.length = 0) := by
        rw [decide_eq_true rfl, Bool.true_and, Bool.not_false, Bool.and_true]
        by_cases z : T1.length = 0
        ·rw [decide_eq_true z, decide_eq_true (by omega)]
        ·rw [decide_eq_false z, decide_eq_false (by omega)]
       show rEqX K true (.ref pd1) (.ref p) (upd H' p (.lst [])) fun y H2 => rEqX K false (.bl (decide ((0 : Int) = 0) && decide ((0 : Int) = (T1.length : Int)) && !false)) y H2 _
       rw [e1]
       by_cases z : ds = []
       ·refine ⟨2, _, _, by decide, d3, (dn_lst (n := 0) upd_same .nil).up (by decide), .inl ⟨by rw [z], ?_⟩⟩
        have z' : T1.length = 0 := by rw [← d1, z]; rfl
        rw [decide_eq_true z']
        show rEqX K false (.bl true) (.bl false) _ _
        rw [rEqX_bl]
        refine ⟨_, rfl, ?_⟩
        rw [if_neg (by decide)]
        exact ⟨Sk.trans (same_upd hp), _, rfl⟩
       ·refine ⟨2, _, _, by decide, d3, (dn_lst (n := 0) upd_same .nil).up (by decide), .inr ⟨fun e => z (Dt.l.inj e), ?_⟩⟩
        have z' : ¬ T1.length = 0 := fun e => z (List.length_eq_zero_iff.mp (by rw [d1, e]))
        rw [decide_eq_false z']
        show rEqX K false (.bl false) (.bl true) _ _
        rw [rEqX_bl]
        refine ⟨_, rfl, ?_⟩
        rw [if_neg (by decide)]
        exact ⟨Sk.trans (same_upd hp), _, rfl⟩
     ·obtain ⟨Sk, v7, rfl⟩ := hp
      rw [← hD]
      exact ⟨Sk _ _ hl13, s0, s1, nm0, nm1, T0, T1, e0, e1, _, _, _, I.same Sk, rfl⟩
    obtain e6 | e6 : c / 6 % 2 = 0 ∨ c / 6 % 2 = 1 := by omega
    ·rw [e6] at tail ⊢
     exists I.hh, I.hn, I.hd
     obtain ⟨vs, ths, b1, b2, b3, b4⟩ := I.d0
     have lv := pr_len b2
     have lT := pr_len b3
     refine ⟨_, _, vs, I.h0, rfl, I.n0, by show T0.length ≤ 980; omega, by show e0.length < 1000; have := I.l0; omega, b1, by omega, fun m => nd_disj I.nd m (by simp), fun nm' st' ts ds ths' es H13 k13 hn' le' lt' hA p1 e p2 => ?_⟩
     obtain ⟨en, I'⟩ := I.step0 b1 b2 b3 b4 k13 hn' le' lt' hA p1 e p2
     have hl13 := k13 _ _ hl12 (fun m => np (by
      rcases List.mem_cons.mp m with z | m
      ·rw [z]; simp [F63]
      ·exact List.mem_append_left _ m))
     refine ⟨_, 0, en, rfl, ?_⟩
     exact tail _ st' s1 _ _ _ _ _ _ (by rw [upd_ne (fun z => np (by rw [z]; simp [F63]))]; exact hl13) I'
    ·rw [e6] at tail ⊢
     exists I.hh, I.hn, I.hd
     obtain ⟨vs, ths, b1, b2, b3, b4⟩ := I.d1
     have lv := pr_len b2
     have lT := pr_len b3
     refine ⟨_, _, vs, I.h1, rfl, I.n1, by show T1.length ≤ 980; omega, by show e1.length < 1000; have := I.l1; omega, b1, by omega, fun m => nd_disj (List.nodup_append.mp I.nd).2.1 m (by simp), fun nm' st' ts ds ths' es H13 k13 hn' le' lt' hA p1 e p2 => ?_⟩
     obtain ⟨en, I'⟩ := I.step1 b1 b2 b3 b4 k13 hn' le' lt' hA p1 e p2
     have hl13 := k13 _ _ hl12 (fun m => np (by
      rcases List.mem_cons.mp m with z | m
      ·rw [z]; simp [F63]
      ·exact List.mem_append_right _ (List.mem_append_left _ m)))
     refine ⟨_, 1, en, rfl, ?_⟩
     exact tail _ s0 st' _ _ _ _ _ _ (by rw [upd_ne (fun z => np (by rw [z]; simp [F63]))]; exact hl13) I'
   ·obtain ⟨hl12, s0, s1, nm0, nm1, T0, T1, e0, e1, v5, v6, v7, I, rfl⟩ := hp
    rw [tHold]
    exists I.hh
    refine ⟨_, _, r, o, t, g, f, l, I.h0, I.ht, hw.1, rfl, rfl, rfl, rfl, fun H13 k13 => ?_⟩
    have n12 := I.nd
    have n2 := (List.nodup_append.mp n12).2.1
    have im : ∀ b u, H12 b = some u → Imm u → b ∉ foot x0 { A0 with st := s0 } := fun b u e i => I.h0.imm e i
    have hh13 := k13 _ _ I.hh (fun m => nd_disj n12 m (by simp))
    have h113 := I.h1.kp k13 (fun b hb m => nd_disj n12 m (List.mem_append_left _ hb)) im
    have ht13 := I.ht.kp k13 (fun m => I.it (List.mem_append_left _ m)) im
    exists hh13
    exact ⟨_, _, r, o, t, g, f, l, h113, ht13, hw.1, rfl, rfl, rfl, rfl, fun H14 _ => q H14⟩
  ·exact h.elim
end
theorem fin {P : Program} {w : World} {K : PySem.W.Frag} {h : Heap} {mg : Str → Option Value} {fa : Addr} {C_Meter C_Ways C_Sender C_Taker C_Hand C_Terms C_RoadError C_NoPiece C_BadTerms C_NotWide C_BadText C_NotNow C_State C_Shut C_Calling C_Leaving : Addr} (KX : K.In h) (G : h.Ns mainGlobals mg) (hmg : mg "law" = some (.ref fa)) (T : Txt K mg C_Meter C_Ways C_Sender C_Taker C_Hand C_Terms C_RoadError C_NoPiece C_BadTerms C_NotWide C_BadText C_NotNow C_State C_Shut C_Calling C_Leaving) :
  ∃ fd : FuncData, (∀ (s : Shared) (u : Value), BindsTo s fd ⟨[u], []⟩ [("_law_script", u)]) ∧ ∀ base : Heap, K.In base → base.Ns mainGlobals mg → FnOk P w K mg base CX0 7 fa fd ["_law_script"] (spLaw K) :=
 law_fin hmg T.d_law bd_law fun base => ok_law T
end K63
open PySem PySem.W PyProof.Rows
set_option maxRecDepth 100000 in
set_option maxHeartbeats 0 in
theorem PySem.Challenge.cw_slowroad_k63_wishes_of_a_hand_holds : PySem.Challenge.rw_slowroad_k63_wishes_of_a_hand.Holds := by
 w_on; o_law
 refine holds_open (q := K63.hdView) (loose := []) (Xt := fun s => xlAt K63.hdView [] s && recOk (RowW.records (OpenRow.toRowW (OpenLaw.row PySem.Challenge.rw_slowroad_k63_wishes_of_a_hand))) s) (XP := XL K63.hdView []) (Yf := Hook.obs (kHook K63.hdK K63.hdAdr K63.hd_he)) (Ya := Hook.val (kHook K63.hdK K63.hdAdr K63.hd_he)) (YP := Hook.says (kHook K63.hdK K63.hdAdr K63.hd_he)) (N := 13296) K63.hd_hl (Hook.of (kHook K63.hdK K63.hdAdr K63.hd_he)) (Hook.keeps (kHook K63.hdK K63.hdAdr K63.hd_he)) (fun s e => xl_of s (Bool.and_eq_true_iff.mp e).1) XL.keeps (by rfl) (by rfl) (by rfl) (fun s e => recFacts_of (Bool.and_eq_true_iff.mp e).2) (by rfl) (by first | assumption | decide +kernel) (by decide +kernel) ⟨rfl, rfl, rfl, rfl, rfl, by decide +kernel⟩ ?hw ?hc
 case hw => w_witness2
 k_fill
 refine L2.law_walk (l := PySem.Challenge.rw_slowroad_k63_wishes_of_a_hand) (k := 7) (x := "_law_script") rfl rfl ⟨rfl, by decide, by decide⟩ (fun w h Y => PySem.W.kIn_of Y) ?F
 case F =>
  intro w mg fa h KX G hmg
  refine' K63.fin KX G hmg ?TT
  case TT =>
   refine' K63.Txt.mk ?k_Meter ?n_Meter_most ?n_Meter_window ?n_Meter_knee ?n_Meter_counted ?k_Ways ?n_Ways_longest ?n_Ways_smooth ?n_Ways_spread ?n_Ways_wait ?k_Sender ?n_Sender_ring ?n_Sender_ways ?n_Sender_meter ?n_Sender_things ?n_Sender_base ?n_Sender_top ?n_Sender_edge ?n_Sender_clock ?n_Sender_base_hurried ?n_Sender_known_places ?n_Sender_first_turns ?n_Sender_gone_again ?k_Taker ?n_Taker_ring ?n_Taker_room ?n_Taker_got ?n_Taker_out ?n_Taker_kept ?k_Hand ?n_Hand_side ?n_Hand_ring ?n_Hand_taker ?n_Hand_sender ?n_Hand_state ?n_Hand_answer_due ?n_Hand_end_places ?k_Terms ?n_Terms_ring ?n_Terms_rooms ?n_Terms_lag ?n_Terms_first ?n_Terms_longest ?xm_RoadError ?xm_NoPiece ?xm_BadTerms ?xm_NotWide ?xm_BadText ?xm_NotNow ?x_NoPiece ?g_NoPiece ?kp_NoPiece ?xf_NoPiece_what ?qv_NoPiece ?q_NoPiece_RoadError ?m_NoPiece_RoadError ?q_NoPiece_NoPiece ?m_NoPiece_NoPiece ?q_NoPiece_BadTerms ?m_NoPiece_BadTerms ?q_NoPiece_NotWide ?m_NoPiece_NotWide ?q_NoPiece_BadText ?m_NoPiece_BadText ?q_NoPiece_NotNow ?m_NoPiece_NotNow ?x_BadTerms ?g_BadTerms ?qv_BadTerms ?q_BadTerms_RoadError ?m_BadTerms_RoadError ?q_BadTerms_NoPiece ?m_BadTerms_NoPiece ?q_BadTerms_BadTerms ?m_BadTerms_BadTerms ?q_BadTerms_NotWide ?m_BadTerms_NotWide ?q_BadTerms_BadText ?m_BadTerms_BadText ?q_BadTerms_NotNow ?m_BadTerms_NotNow ?x_NotWide ?g_NotWide ?kp_NotWide ?xf_NotWide_least ?qv_NotWide ?q_NotWide_RoadError ?m_NotWide_RoadError ?q_NotWide_NoPiece ?m_NotWide_NoPiece ?q_NotWide_BadTerms ?m_NotWide_BadTerms ?q_NotWide_NotWide ?m_NotWide_NotWide ?q_NotWide_BadText ?m_NotWide_BadText ?q_NotWide_NotNow ?m_NotWide_NotNow ?x_BadText ?g_BadText ?qv_BadText ?q_BadText_RoadError ?m_BadText_RoadError ?q_BadText_NoPiece ?m_BadText_NoPiece ?q_BadText_BadTerms ?m_BadText_BadTerms ?q_BadText_NotWide ?m_BadText_NotWide ?q_BadText_BadText ?m_BadText_BadText ?q_BadText_NotNow ?m_BadText_NotNow ?x_NotNow ?g_NotNow ?kp_NotNow ?xf_NotNow_state ?xf_NotNow_wish ?qv_NotNow ?q_NotNow_RoadError ?m_NotNow_RoadError ?q_NotNow_NoPiece ?m_NotNow_NoPiece ?q_NotNow_BadTerms ?m_NotNow_BadTerms ?q_NotNow_NotWide ?m_NotNow_NotWide ?q_NotNow_BadText ?m_NotNow_BadText ?q_NotNow_NotNow ?m_NotNow_NotNow ?k_State ?k_Shut ?k_Calling ?k_Leaving ?ni_Shut ?di_Shut_wish_end ?di_Shut_may_put ?ni_Calling ?di_Calling_wish_begin ?ni_Leaving ?di_Leaving_wish_begin ?di_Leaving_wish_end ?di_Leaving_may_put ?d_NotWide___init__ ?d_NotNow___init__ ?d_is_from ?d_Meter___init__ ?d_Ways___init__ ?d_Ways_ran_out ?d_Sender___init__ ?d_Sender_put ?d_Sender_many ?d_Sender_thing ?d_Shut_name ?d_Shut_wish_begin ?d_Calling_name ?d_Calling_wish_end ?d_Calling_may_put ?d_Leaving_name ?d_Taker___init__ ?d_Taker_room_left ?d_Taker_answer ?d_is_text ?d_Hand___init__ ?d_Hand_name ?d_Hand_begin ?d_Hand_end ?d_Hand_put ?d_Hand_quiet ?d_need ?d_are_rooms ?d_are_waits ?d_Terms___init__ ?d__law_cell_at ?d__law_mixed ?d__law_terms ?d__law_text ?d__law_bad_text ?d__law_bad ?d__law_wished ?d__law_after ?d__law_put ?d__law_made_by ?d__law_step ?d_law ?b_ValueError ?b_all ?b_bool ?b_int ?b_isinstance ?b_len ?b_max ?b_min ?b_range ?b_str ?b_tuple ?c_SIGNS ?c_SIGNS_MOST ?c_TEXT_MOST ?c_BEGIN ?c_END ?c_RING_MOST ?c_ROOM_MOST_terms ?c_LAG_MOST ?c_WAIT_LEAST ?c_WAIT_MOST
   case k_Meter | k_Ways | k_Sender | k_Taker | k_Hand | k_Terms | k_State | k_Shut | k_Calling | k_Leaving => refine' L2.klsat_mk KX G ?a ?pg ?hd ?po ?sa ?mk ?kc; (case a => k_is); (case pg => k_is); (case hd => k_is); (case po => k_is); (case sa => k_is); (case mk => k_is); (case kc => k_is)
   case n_Meter_most | n_Meter_window | n_Meter_knee | n_Meter_counted | n_Ways_longest | n_Ways_smooth | n_Ways_spread | n_Ways_wait | n_Sender_ring | n_Sender_ways | n_Sender_meter | n_Sender_things | n_Sender_base | n_Sender_top | n_Sender_edge | n_Sender_clock | n_Sender_base_hurried | n_Sender_known_places | n_Sender_first_turns | n_Sender_gone_again | n_Taker_ring | n_Taker_room | n_Taker_got | n_Taker_out | n_Taker_kept | n_Hand_side | n_Hand_ring | n_Hand_taker | n_Hand_sender | n_Hand_state | n_Hand_answer_due | n_Hand_end_places | n_Terms_ring | n_Terms_rooms | n_Terms_lag | n_Terms_first | n_Terms_longest => refine' L2.noattr_mk ?a; (case a => k_is)
   case xm_RoadError | xm_NoPiece | xm_BadTerms | xm_NotWide | xm_BadText | xm_NotNow => refine' L2.xmat_mk KX G ?a ?t ?b; (case a => k_is); (case t => k_is); (case b => k_is)
   case x_NoPiece | x_NotWide | x_NotNow => refine' ⟨_, L2.xcat_mk KX G ?a ?l ?o ?i ?t ?l2 ?o2 ?i2 ?t2⟩; (case a => k_is); (case l => k_is); (case o => kernel_rfl); (case i => k_is); (case t => k_is); (case l2 => k_is); (case o2 => kernel_rfl); (case i2 => k_is); (case t2 => k_is)
   case g_NoPiece | g_BadTerms | g_NotWide | g_BadText | g_NotNow => refine' L2.xgat_mk ?a ?b ?c ?d ?e ?f ?g ?h; (case a => k_is); (case b => k_is); (case c => k_is); (case d => k_is); (case e => k_is); (case f => k_is); (case g => k_is); (case h => k_is)
   case kp_NoPiece | kp_NotWide | kp_NotNow => k_is
   case xf_NoPiece_what | xf_NotWide_least | xf_NotNow_state | xf_NotNow_wish => refine' ⟨?a, ?b⟩; (case a => k_is); (case b => k_is)
   case qv_NoPiece | q_NoPiece_RoadError | q_NoPiece_NoPiece | q_NoPiece_BadTerms | q_NoPiece_NotWide | q_NoPiece_BadText | q_NoPiece_NotNow | qv_BadTerms | q_BadTerms_RoadError | q_BadTerms_NoPiece | q_BadTerms_BadTerms | q_BadTerms_NotWide | q_BadTerms_BadText | q_BadTerms_NotNow | qv_NotWide | q_NotWide_RoadError | q_NotWide_NoPiece | q_NotWide_BadTerms | q_NotWide_NotWide | q_NotWide_BadText | q_NotWide_NotNow | qv_BadText | q_BadText_RoadError | q_BadText_NoPiece | q_BadText_BadTerms | q_BadText_NotWide | q_BadText_BadText | q_BadText_NotNow | qv_NotNow | q_NotNow_RoadError | q_NotNow_NoPiece | q_NotNow_BadTerms | q_NotNow_NotWide | q_NotNow_BadText | q_NotNow_NotNow => kit_is
   case m_NoPiece_RoadError | m_NoPiece_NoPiece | m_NoPiece_BadTerms | m_NoPiece_NotWide | m_NoPiece_BadText | m_NoPiece_NotNow | m_BadTerms_RoadError | m_BadTerms_NoPiece | m_BadTerms_BadTerms | m_BadTerms_NotWide | m_BadTerms_BadText | m_BadTerms_NotNow | m_NotWide_RoadError | m_NotWide_NoPiece | m_NotWide_BadTerms | m_NotWide_NotWide | m_NotWide_BadText | m_NotWide_NotNow | m_BadText_RoadError | m_BadText_NoPiece | m_BadText_BadTerms | m_BadText_NotWide | m_BadText_BadText | m_BadText_NotNow | m_NotNow_RoadError | m_NotNow_NoPiece | m_NotNow_BadTerms | m_NotNow_NotWide | m_NotNow_BadText | m_NotNow_NotNow => refine' (show PySem.W.mroIn _ _ _ = _ from ?a); (case a => k_is)
   case x_BadTerms | x_BadText => refine' L2.xcat_mk KX G ?a ?l ?o ?i ?t ?l2 ?o2 ?i2 ?t2; (case a => k_is); (case l => k_is); (case o => kernel_rfl); (case i => k_is); (case t => k_is); (case l2 => k_is); (case o2 => kernel_rfl); (case i2 => k_is); (case t2 => k_is)
   case ni_Shut | ni_Calling | ni_Leaving => refine' L2.noini_mk ?a; (case a => k_is)
   case di_Shut_wish_end | di_Shut_may_put | di_Calling_wish_begin | di_Leaving_wish_begin | di_Leaving_wish_end | di_Leaving_may_put | d_NotWide___init__ | d_NotNow___init__ | d_Meter___init__ | d_Ways___init__ | d_Ways_ran_out | d_Sender___init__ | d_Sender_put | d_Sender_many | d_Sender_thing | d_Shut_name | d_Shut_wish_begin | d_Calling_name | d_Calling_wish_end | d_Calling_may_put | d_Leaving_name | d_Taker___init__ | d_Taker_room_left | d_Taker_answer | d_Hand___init__ | d_Hand_name | d_Hand_begin | d_Hand_end | d_Hand_put | d_Hand_quiet | d_Terms___init__ => refine' L2.methat_mk ?a ?i ?l ?c ?k; (case a => k_is); (case i => k_is); (case l => k_is); (case c => k_is); (case k => k_is)
   case d_is_from | d_is_text | d_need | d_are_rooms | d_are_waits | d__law_cell_at | d__law_mixed | d__law_terms | d__law_text | d__law_bad_text | d__law_bad | d__law_wished | d__law_after | d__law_put | d__law_made_by | d__law_step | d_law => refine' L2.defat_mk KX G ?a ?l ?c ?k; (case a => k_is); (case l => k_is); (case c => k_is); (case k => k_is)
   case b_ValueError | b_all | b_bool | b_int | b_isinstance | b_len | b_max | b_min | b_range | b_str | b_tuple => refine' PySem.W.mg_none_of KX G ?a; (case a => k_is)
   case c_SIGNS | c_SIGNS_MOST | c_TEXT_MOST | c_RING_MOST | c_ROOM_MOST_terms | c_LAG_MOST | c_WAIT_LEAST | c_WAIT_MOST => refine' ⟨_, PySem.W.mg_of KX G ?a, ?r⟩; (case a => k_is); (case r => exact ⟨_, rfl⟩)
   case c_BEGIN | c_END => refine' L2.tupat_mk KX G ?a ?l ?c ?d ?e ?z ?r; (case a => k_is); (case l => k_is); (case c => rfl); (case d => rfl); (case e => rfl); (case z => decide); (case r => exact .cons ⟨_, rfl⟩ (.cons ⟨_, rfl⟩ (.nil)))
#print axioms PySem.Challenge.cw_slowroad_k63_wishes_of_a_hand_holds
