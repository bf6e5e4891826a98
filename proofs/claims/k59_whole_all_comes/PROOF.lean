import PyProof.Rows.All
import Wide.All
import OpenK.AllK
import Wide.FinOn
import PyProof.EqAt
import PyProof.EqKinds
import PyProof.TupleCall
import PyProof.NeKinds
import PyProof.Rows.BitMore
import PyProof.FitsBits
import PyProof.Rows.TupAssign
import PyProof.ListRange
import PyProof.Rows.ZipGen
import PyProof.StationsW
import PyProof.ExcInit
import PyProof.ExcClass2
import PyProof.RulesTry
import PyProof.ExcBaseAll.ValueError
import PyProof.InstStoreFacts
import PyProof.RulesAs
import PyProof.RulesDel
import PyProof.ExcArgs
import KE.KUnpack
import KE.KDictLaws
import Lean
import PySem.Challenge.RW_slowroad_k59_whole_all_comes
set_option Elab.async false
set_option linter.all false
set_option compiler.extract_closed false
-- CHANGE: your row's module here, as the last of these rows
set_option maxRecDepth 100000
namespace L2
open PySem PySem.Spec PyProof.Rows
noncomputable abbrev Key := Sum Int Str
noncomputable def keyIs : Key → Value → Bool
 | .inl k, v => Value.isInt k v
 | .inr x, v => Value.isStrOf x v
noncomputable def keyH (w : World) : Key → Int
 | .inl k => hashInt k
 | .inr x => hashStr w x
theorem keyIs_shape : ∀ {k : Key} {v : Value}, keyIs k v = true → (∃ i t, k = Sum.inl i ∧ v = Value.int i t) ∨ (∃ x t, k = Sum.inr x ∧ v = Value.str x t)
 | .inl i, v, h => by
  obtain ⟨t, e⟩ := Value.isInt_shape (k := i) (v := v) h
  exact .inl ⟨i, t, rfl, e⟩
 | .inr x, v, h => by
  obtain ⟨t, e⟩ := Value.isStrOf_shape (x := x) (v := v) h
  exact .inr ⟨x, t, rfl, e⟩
theorem keyIs_int (i : Int) (t : Tok) : keyIs (.inl i) (.int i t) = true := by simp [keyIs, Value.isInt]
theorem keyIs_str (x : Str) (t : Tok) : keyIs (.inr x) (.str x t) = true := by simp [keyIs, Value.isStrOf]
theorem key_ll (a b : Int) : decide ((Sum.inl a : Key) = Sum.inl b) = (a == b) := by
 by_cases e : a = b
 ·subst e; simp
 ·have h : ¬ (Sum.inl a : Key) = Sum.inl b := fun q => e (Sum.inl.inj q)
  rw [decide_eq_false h]
  exact (beq_eq_false_iff_ne.mpr e).symm
theorem key_rr (a b : Str) : decide ((Sum.inr a : Key) = Sum.inr b) = decide (a = b) := by
 by_cases e : a = b
 ·subst e; simp
 ·have h : ¬ (Sum.inr a : Key) = Sum.inr b := fun q => e (Sum.inr.inj q)
  rw [decide_eq_false h, decide_eq_false e]
theorem key_lr (a : Int) (b : Str) : decide ((Sum.inl a : Key) = Sum.inr b) = false := decide_eq_false (fun q => nomatch q)
theorem key_rl (a : Str) (b : Int) : decide ((Sum.inr a : Key) = Sum.inl b) = false := decide_eq_false (fun q => nomatch q)
noncomputable def mixKind (prog : Program) (w : World) : PySem.KeyKind prog w Key where
 is := keyIs
 hash := keyH w
 inj := fun v a b ha hb => by
  rcases keyIs_shape ha with ⟨i, t, rfl, rfl⟩ | ⟨x, t, rfl, rfl⟩
  ·rcases keyIs_shape hb with ⟨j, u, rfl, e⟩ | ⟨y, u, rfl, e⟩
   ·injection e with e1 _; rw [e1]
   ·exact nomatch e
  ·rcases keyIs_shape hb with ⟨j, u, rfl, e⟩ | ⟨y, u, rfl, e⟩
   ·exact nomatch e
   ·injection e with e1 _; rw [e1]
 byValue := fun k v h => by
  rcases keyIs_shape h with ⟨i, t, rfl, rfl⟩ | ⟨x, t, rfl, rfl⟩ <;> rfl
 pyHash := fun hv h => by
  rcases keyIs_shape hv with ⟨i, t, rfl, rfl⟩ | ⟨x, t, rfl, rfl⟩
  ·exact wpAny_pyHash_int h
  ·exact wpAny_pyHash_str h
 eqBool := fun hu hv h => by
  rcases keyIs_shape hu with ⟨i, t, rfl, rfl⟩ | ⟨x, t, rfl, rfl⟩
  ·rcases keyIs_shape hv with ⟨j, u, rfl, rfl⟩ | ⟨y, u, rfl, rfl⟩
   ·rw [key_ll] at h; exact wpAny_eqBool_int h
   ·rw [key_lr] at h; exact SeqAt.EqAt.int_str i t y u _ _ _ _ h
  ·rcases keyIs_shape hv with ⟨j, u, rfl, rfl⟩ | ⟨y, u, rfl, rfl⟩
   ·rw [key_rl] at h; exact SeqAt.EqAt.str_int x t j u _ _ _ _ h
   ·rw [key_rr] at h; exact wpAny_eqBool_str h
 «strs» := fun k x t v h => by
  rcases keyIs_shape h with ⟨i, u, rfl, e⟩ | ⟨y, u, rfl, e⟩
  ·exact nomatch e
  ·injection e with e1 _
   subst e1
   cases v <;> rfl
theorem mixKind_int (prog : Program) (w : World) (i : Int) (t : Tok) : (mixKind prog w).is (.inl i) (.int i t) = true := keyIs_int i t
theorem mixKind_str (prog : Program) (w : World) (x : Str) (t : Tok) : (mixKind prog w).is (.inr x) (.str x t) = true := keyIs_str x t
end L2
namespace L2
open PySem PySem.Spec PyProof.Rows
inductive V where
 | non | bl (b : Bool) | int (i : Int) | str (x : Str) | byt (b : Array UInt8) | flt (b : UInt64) | ref (a : Addr) | ty (n : String)
 deriving DecidableEq
noncomputable def RelV : V → Value → Prop
 | .non, u => u = Value.none
 | .bl b, u => u = Value.bool b
 | .int i, u => ∃ t, u = Value.int i t
 | .str x, u => ∃ t, u = Value.str x t
 | .byt b, u => ∃ t, u = Value.bytes b t
 | .flt b, u => ∃ t, u = Value.float b t
 | .ref a, u => u = Value.ref a
 | .ty n, u => u = Value.type n
noncomputable abbrev Vals : List V → List Value → Prop := Paired RelV
theorem Vals.length {xs : List V} {us : List Value} (r : Vals xs us) : xs.length = us.length := Paired.length r
theorem Vals.get : ∀ {xs : List V} {us : List Value} {i : Nat} {x : V}, Vals xs us → xs[i]? = some x → ∃ u, us[i]? = some u ∧ RelV x u
 | _, _, _, _, .nil, e => by simp at e
 | _, _, 0, _, .cons r _, e => by simp at e; subst e; exact ⟨_, rfl, r⟩
 | _, _, i + 1, x, .cons _ t, e => by
  obtain ⟨u, h1, h2⟩ := Vals.get (i := i) (x := x) t (by simpa using e)
  exact ⟨u, by simpa using h1, h2⟩
theorem Vals.append : ∀ {xs ys : List V} {us ws : List Value}, Vals xs us → Vals ys ws → Vals (xs ++ ys) (us ++ ws)
 | _, _, _, _, .nil, s => s
 | _, _, _, _, .cons r t, s => .cons r (Vals.append t s)
theorem Vals.take : ∀ {xs : List V} {us : List Value} (n : Nat), Vals xs us → Vals (xs.take n) (us.take n)
 | _, _, 0, _ => .nil
 | _, _, _ + 1, .nil => .nil
 | _, _, n + 1, .cons r t => .cons r (Vals.take n t)
theorem Vals.drop : ∀ {xs : List V} {us : List Value} (n : Nat), Vals xs us → Vals (xs.drop n) (us.drop n)
 | _, _, 0, r => r
 | _, _, _ + 1, .nil => .nil
 | _, _, n + 1, .cons _ t => Vals.drop n t
noncomputable def RelO : Option V → Option Value → Prop
 | some v, some u => RelV v u
 | none, none => True
 | _, _ => False
noncomputable def KV {κ : Type} : List (κ × V) → List (κ × Value) → Prop := Paired fun (p : κ × V) (q : κ × Value) => p.1 = q.1 ∧ RelV p.2 q.2
noncomputable def kV : Key → V
 | .inl i => .int i
 | .inr x => .str x
inductive HO where
 /-- a list -/
 | lst (xs : List V)
 /-- a tuple (never changes) -/
 | tup (xs : List V)
 /-- a dict whose keys are ints and texts; one whose keys are tuples of ints and texts (the empty one is both) -/
 | dK (kvs : List (Key × V)) | dT (kvs : List (List Key × V))
 /-- a set of ints: its members, its size -/
 | set (S : Int → Bool) (n : Nat)
 /-- an instance of the class at C, its dict at dx, its attributes -/
 | ins (C dx : Addr) (fs : List (Str × V))
 /-- the dict of the instance at x -/
 | own (x : Addr)
 /-- the dict of an exception -/
 | xd (fs : List (Str × V))
 /-- a bound method, f of x -/
 | met (f x : Addr)
 /-- a range object lo, lo + 1, .. below hi -/
 | rng (lo hi : Int)
 /-- a thing that is known to the object (the script; a dict while a loop walks it): read, never written while it is so -/
 | frz (o : Obj) (u : HO)
 /-- a code object's table -/
 | tbl (ps : Array Value)
 /-- any other thing, by what is true of its one object (a def of one's own: SetO a S n := HO.ext fun h => ..) -/
 | ext (φ : Heap → Prop)
noncomputable abbrev Hp := Addr → Option HO
noncomputable def upd (H : Hp) (a : Addr) (o : HO) : Hp := fun b => if b = a then some o else H b
theorem upd_same {H : Hp} {a : Addr} {o : HO} : upd H a o a = some o := by unfold upd; rw [if_pos rfl]
theorem upd_ne {H : Hp} {a b : Addr} {o : HO} (h : b ≠ a) : upd H a o b = H b := by unfold upd; rw [if_neg h]
theorem upd_upd {H : Hp} {a : Addr} {o u : HO} : upd (upd H a o) a u = upd H a u := by
 funext b; unfold upd; split <;> rfl
theorem ne_of {H : Hp} {a b : Addr} {o u : HO} (h : H a = some o) (h' : H b = some u) (d : o ≠ u) : a ≠ b := by
 intro e; subst e; rw [h] at h'; exact d (Option.some.inj h')
theorem ne_of_none {H : Hp} {a b : Addr} {o : HO} (h : H a = some o) (h' : H b = none) : a ≠ b := by
 intro e; subst e; rw [h] at h'; cases h'
section
variable (P : Program) (w : World)
noncomputable def ObjOk (H : Hp) (h : Heap) (a : Addr) : HO → Prop
 | .lst xs => xs.length ≤ sizeLine ∧ ∃ (its : List Value) (n : Nat), Vals xs its ∧ h.get? a = some { cls := .type "list", data := .seq its.toArray n }
 | .tup xs => xs.length ≤ sizeLine ∧ ∃ its : List Value, Vals xs its ∧ IsTup h a its.toArray
 | .dK kvs => kvs.length ≤ sizeLine ∧ (a == sysModules) = false ∧ ∃ vs, KV kvs vs ∧ h.DictOf (mixKind P w) a vs
 | .dT kvs => kvs.length ≤ sizeLine ∧ (a == sysModules) = false ∧ ∃ xs : List (List Key × Addr × Value),
   Paired (fun (p : List Key × V) (q : List Key × Addr × Value) => p.1 = q.1 ∧ H q.2.1 = some (.tup (p.1.map kV)) ∧ RelV p.2 q.2.2) kvs xs ∧
   ∃ o es ep, h.get? a = some o ∧ o.ExactDict ∧ o.data = .dict es ep ∧ es.toList = xs.map (entryOfKey (tupleKind (mixKind P w))) ∧ (xs.map (·.1)).Nodup
 | .set S n => h.SetOf (intKind P w) a S n
 | .ins C dx fs => H dx = some (.own a) ∧ fs.length ≤ 1000 ∧ dx ≠ a ∧ h.get? a = some (PySem.W.instObj C dx) ∧
   ∃ mA, h.Ns1 dx mA ∧ (∀ f, RelO (fs.lookup f) (mA f)) ∧ PySem.Within mA (fs.map (·.1))
 | .own _ => ∃ o, h.get? a = some o
 | .xd fs => ∃ mA, h.Ns1 a mA ∧ ∀ f, RelO (fs.lookup f) (mA f)
 | .rng lo hi => ∃ t u v, h.get? a = some { cls := .type "range", data := .fields #[.int lo t, .int hi u, .int 1 v] }
 | .frz o u => h.get? a = some o ∧ ObjOk H h a u
 | .tbl ps => h.get? a = some { cls := .none, data := .fields ps }
 | .met f x => h.get? a = some (PySem.W.methodObj (.ref f) (.ref x))
 | .ext φ => φ h ∧ (∃ o, h.get? a = some o) ∧ ∀ h1 h2 : Heap, φ h1 → (∀ o, h1.get? a = some o → h2.get? a = some o) → φ h2
noncomputable def HOk (H : Hp) (h : Heap) : Prop := ∀ a o, H a = some o → ObjOk P w H h a o
end
section
variable {P : Program} {w : World} {H H' : Hp} {h h' : Heap} {a : Addr} {o : HO}
theorem ObjOk.lt (x : ObjOk P w H h a o) : a < h.objs.size := by
 cases o with
 | lst xs => obtain ⟨_, _, _, _, e⟩ := x; exact Heap.lt_size e
 | tup xs => obtain ⟨_, _, _, p⟩ := x; exact p.lt
 | dK kvs => obtain ⟨_, _, _, _, o, _, _, e, _⟩ := x; exact Heap.lt_size e
 | dT kvs => obtain ⟨_, _, _, _, o, _, _, e, _⟩ := x; exact Heap.lt_size e
 | set S n => obtain ⟨o, _, _, _, e, _⟩ := x; exact Heap.lt_size e
 | ins C dx fs => obtain ⟨_, _, _, e, _⟩ := x; exact Heap.lt_size e
 | own y => obtain ⟨_, e⟩ := x; exact Heap.lt_size e
 | xd fs => obtain ⟨_, ⟨_, _, _, e, _⟩, _⟩ := x; exact Heap.lt_size e
 | rng lo hi => obtain ⟨_, _, _, e⟩ := x; exact Heap.lt_size e
 | frz ob u => obtain ⟨e, _⟩ := x; exact Heap.lt_size e
 | tbl ps => exact Heap.lt_size (show h.get? a = some _ from x)
 | met f y => exact Heap.lt_size (show h.get? a = some _ from x)
 | ext φ => obtain ⟨_, ⟨_, e⟩, _⟩ := x; exact Heap.lt_size e
theorem Paired.mapP {α β : Type} {F G : α → β → Prop} : ∀ {l₁ : List α} {l₂ : List β}, Paired F l₁ l₂ → (∀ a b, F a b → G a b) → Paired G l₁ l₂
 | _, _, .nil, _ => .nil
 | _, _, .cons r t, f => .cons (f _ _ r) (Paired.mapP t f)
theorem Paired.imp' {α β : Type} {F G : α → β → Prop} (f : ∀ a b, F a b → G a b) {l₁ : List α} {l₂ : List β} (r : Paired F l₁ l₂) : Paired G l₁ l₂ := Paired.mapP r f
theorem ObjOk.stay (x : ObjOk P w H h a o) (k : ∀ b u, (b = a ∨ H b = some (.own a)) → h.get? b = some u → h'.get? b = some u)
  (ho : ∀ b, H b = some (.own a) → H' b = some (.own a)) (ht : ∀ b xs, H b = some (.tup xs) → H' b = some (.tup xs)) : ObjOk P w H' h' a o := by
 induction o with
 | lst xs => obtain ⟨z, its, n, r, e⟩ := x; exact ⟨z, its, n, r, k _ _ (.inl rfl) e⟩
 | tup xs => obtain ⟨z, its, r, ob, e, c⟩ := x; exact ⟨z, its, r, ob, k _ _ (.inl rfl) e, c⟩
 | dK kvs => obtain ⟨z, y, vs, r, ob, es, ep, e, c⟩ := x; exact ⟨z, y, vs, r, ob, es, ep, k _ _ (.inl rfl) e, c⟩
 | dT kvs =>
  obtain ⟨z, y, xs, r, ob, es, ep, e, c⟩ := x
  exact ⟨z, y, xs, Paired.mapP r fun p q z => ⟨z.1, ht _ _ z.2.1, z.2.2⟩, ob, es, ep, k _ _ (.inl rfl) e, c⟩
 | set S n => obtain ⟨ob, es, ep, t, e, c⟩ := x; exact ⟨ob, es, ep, t, k _ _ (.inl rfl) e, c⟩
 | ins C dx fs =>
  obtain ⟨d, z, ne, e, mA, ⟨od, es, ep, e2, c⟩, r⟩ := x
  exact ⟨ho _ d, z, ne, k _ _ (.inl rfl) e, mA, ⟨od, es, ep, k _ _ (.inr d) e2, c⟩, r⟩
 | own y => obtain ⟨ob, e⟩ := x; exact ⟨ob, k _ _ (.inl rfl) e⟩
 | xd fs => obtain ⟨mA, ⟨od, es, ep, e, c⟩, r⟩ := x; exact ⟨mA, ⟨od, es, ep, k _ _ (.inl rfl) e, c⟩, r⟩
 | rng lo hi => obtain ⟨t, u, v, e⟩ := x; exact ⟨t, u, v, k _ _ (.inl rfl) e⟩
 | frz ob u ih => obtain ⟨e, q⟩ := x; exact ⟨k _ _ (.inl rfl) e, ih q⟩
 | tbl ps =>
  have e : h.get? a = some { cls := .none, data := .fields ps } := x
  show h'.get? a = some { cls := .none, data := .fields ps }
  exact k a _ (.inl rfl) e
 | met f y =>
  have e : h.get? a = some (PySem.W.methodObj (.ref f) (.ref y)) := x
  show h'.get? a = some (PySem.W.methodObj (.ref f) (.ref y))
  exact k a _ (.inl rfl) e
 | ext φ => obtain ⟨p, ⟨o, e⟩, st⟩ := x; exact ⟨st _ _ p fun o q => k _ _ (.inl rfl) q, ⟨o, k _ _ (.inl rfl) e⟩, st⟩
theorem HOk.lt (x : HOk P w H h) (e : H a = some o) : a < h.objs.size := (x a o e).lt
theorem HOk.fresh (x : HOk P w H h) (e : h.objs.size ≤ a) : H a = none := by
 cases q : H a with
 | none => rfl
 | some u => exact absurd (Nat.lt_of_lt_of_le (x.lt q) e) (Nat.lt_irrefl _)
theorem HOk.kept (x : HOk P w H h) (k : ∀ b u, h.get? b = some u → h'.get? b = some u) : HOk P w H h' := fun a o e =>
 (x a o e).stay (fun b u _ q => k b u q) (fun _ q => q) fun _ _ q => q
theorem HOk.laid (x : HOk P w H h) (k : ∀ b u, h.get? b = some u → h'.get? b = some u) (hp : h.objs.size ≤ a) (new : ObjOk P w (upd H a o) h' a o) : HOk P w (upd H a o) h' := fun b u e => by
 have hn := x.fresh hp
 by_cases hb : b = a
 ·subst hb; rw [upd_same] at e; cases e; exact new
 ·rw [upd_ne hb] at e
  exact (x b u e).stay (fun c v _ q => k c v q) (fun c q => by rw [upd_ne (ne_of_none q hn)]; exact q) fun c xs q => by rw [upd_ne (ne_of_none q hn)]; exact q
end
noncomputable def Rd (H : Hp) (a : Addr) (u : HO) : Prop := H a = some u ∨ ∃ o, H a = some (.frz o u)
theorem Rd.ok {P : Program} {w : World} {H : Hp} {h : Heap} {a : Addr} {u : HO} (r : Rd H a u) (x : HOk P w H h) : ObjOk P w H h a u := by
 rcases r with r | ⟨o, r⟩
 ·exact x a u r
 ·obtain ⟨_, q⟩ := x a _ r
  exact q
noncomputable def Mut : Option HO → Prop
 | some (.lst _) => True
 | some (.dK _) => True
 | some (.dT _) => True
 | some (.set _ _) => True
 | some (.ins _ _ _) => True
 | some (.ext _) => True
 | _ => False
section
variable {P : Program} {w : World} {H : Hp} {h h' : Heap} {x e : Addr} {o' : HO}
theorem HOk.write (ok : HOk P w H h) (mu : Mut (H x)) (he : e = x ∨ H e = some (.own x)) (k : ∀ b u, b ≠ e → h.get? b = some u → h'.get? b = some u) (heo : ∃ u, h'.get? e = some u)
  (new : ObjOk P w (upd H x o') h' x o') : HOk P w (upd H x o') h' := fun b u q => by
 have nown : ∀ c y, H c = some (.own y) → c ≠ x := fun c y r z => by subst z; rw [r] at mu; exact mu
 have ntup : ∀ c xs, H c = some (.tup xs) → c ≠ x := fun c xs r z => by subst z; rw [r] at mu; exact mu
 by_cases hb : b = x
 ·subst hb; rw [upd_same] at q; cases q; exact new
 ·rw [upd_ne hb] at q
  by_cases hbe : b = e
  ·have q' : H b = some (.own x) := by
    rcases he with z | z
    ·exact absurd (hbe.trans z) hb
    ·rw [hbe]; exact z
   rw [q] at q'; cases q'
   obtain ⟨v, hv⟩ := heo
   exact ⟨v, by rw [hbe]; exact hv⟩
  ·refine (ok b u q).stay (fun c v hc r => k c v ?_ r) (fun c r => by rw [upd_ne (nown c b r)]; exact r) fun c xs r => by rw [upd_ne (ntup c xs r)]; exact r
   rcases hc with rfl | hc
   ·exact hbe
   ·rintro rfl
    rcases he with z | z
    ·exact nown c b hc z
    ·rw [hc] at z; cases z; exact hb rfl
end
structure Un (fs ex : List Addr) (H H' : Hp) (h h' : Heap) : Prop where
 keep : ∀ b o, h.get? b = some o → H b = none → b ∉ fs → b ∉ ex → h'.get? b = some o
 slot : ∀ b o, h.get? b = some o → H b = none → b ∈ fs → b ∉ ex → ∃ sl, h'.get? b = some { o with slots := sl }
 free : ∀ b o, h.get? b = some o → H b = none → b ∉ ex → H' b = none
 there : ∀ b o, h.get? b = some o → b ∉ ex → ∃ o', h'.get? b = some o'
 tups : ∀ b xs, H b = some (.tup xs) → H' b = some (.tup xs)
 frzs : ∀ b o u, H b = some (.frz o u) → H' b = some (.frz o u)
 tbls : ∀ b ps, H b = some (.tbl ps) → ∃ more, H' b = some (.tbl (ps ++ more))
section
variable {fs fs' ex ex' : List Addr} {H H1 H2 : Hp} {h h1 h2 h' : Heap} {a x e : Addr} {o : HO}
theorem Un.any (u : Un fs ex H H1 h h1) {b : Addr} {ob : Obj} (q : h.get? b = some ob) (n : H b = none) (hx : b ∉ ex) : ∃ sl, h1.get? b = some { ob with slots := sl } := by
 by_cases hb : b ∈ fs
 ·exact u.slot b ob q n hb hx
 ·exact ⟨ob.slots, u.keep b ob q n hb hx⟩
theorem Un.kept (k : ∀ b u, h.get? b = some u → h'.get? b = some u) : Un fs ex H H h h' :=
 ⟨fun b ob q _ _ _ => k b ob q, fun b ob q _ _ _ => ⟨ob.slots, k b ob q⟩, fun _ _ _ n _ => n, fun b ob q _ => ⟨ob, k b ob q⟩, fun _ _ q => q, fun _ _ _ q => q, fun _ ps q => ⟨#[], by rw [q]; simp⟩⟩
theorem Un.refl : Un fs ex H H h h := Un.kept fun _ _ q => q
theorem Un.laid (k : ∀ b u, h.get? b = some u → h'.get? b = some u) (hp : h.objs.size ≤ a) (hn : H a = none) : Un fs ex H (upd H a o) h h' where
 keep := fun b u q _ _ _ => k b u q
 slot := fun b u q _ _ _ => ⟨u.slots, k b u q⟩
 free := fun b u q n _ => by rw [upd_ne (Nat.ne_of_lt (Nat.lt_of_lt_of_le (Heap.lt_size q) hp))]; exact n
 there := fun b u q _ => ⟨u, k b u q⟩
 tups := fun b xs q => by rw [upd_ne (ne_of_none q hn)]; exact q
 frzs := fun b u xs q => by rw [upd_ne (ne_of_none q hn)]; exact q
 tbls := fun b ps q => ⟨#[], by rw [upd_ne (ne_of_none q hn), q]; simp⟩
theorem Un.write (mu : Mut (H x)) (he : e = x ∨ H e = some (.own x)) (k : ∀ b u, b ≠ e → h.get? b = some u → h'.get? b = some u) (heo : ∃ u, h'.get? e = some u) : Un fs ex H (upd H x o) h h' := by
 have hx : ∀ b, H b = none → b ≠ x := fun b n z => by subst z; rw [n] at mu; exact mu
 have hb : ∀ b, H b = none → b ≠ e := fun b n z => by
  subst z
  rcases he with r | r
  ·exact hx b n r
  ·rw [n] at r; cases r
 have hm : ∀ b u, H b = some u → ¬ Mut (some u) → b ≠ x := fun b u q nm z => by subst z; rw [q] at mu; exact nm mu
 refine ⟨fun b u q n _ _ => k b u (hb b n) q, fun b u q n _ _ => ⟨u.slots, k b u (hb b n) q⟩, fun b u q n _ => by rw [upd_ne (hx b n)]; exact n, fun b u q _ => ?_,
  fun b xs q => by rw [upd_ne (hm b _ q fun z => z)]; exact q, fun b u xs q => by rw [upd_ne (hm b _ q fun z => z)]; exact q, fun b ps q => ⟨#[], by rw [upd_ne (hm b _ q fun z => z), q]; simp⟩⟩
 by_cases hbe : b = e
 ·subst hbe; exact heo
 ·exact ⟨u, k b u hbe q⟩
end
noncomputable def trk (h : Heap) (H : Hp) : List Addr := (List.range h.objs.size).filter fun a => (H a).isSome
noncomputable def hidT (h : Heap) (H : Hp) : Heap := PySem.W.hideAll h (trk h H)
theorem hidT_size (h : Heap) (H : Hp) : (hidT h H).objs.size = h.objs.size := PySem.W.hideAll_size _ _
theorem hidT_get {h : Heap} {H : Hp} {b : Addr} {o : Obj} (e : h.get? b = some o) (n : H b = none) : (hidT h H).get? b = some o :=
 PySem.W.hideAll_get _ e fun hm => by
  have q : (H b).isSome = true := (List.mem_filter.mp hm).2
  rw [n] at q; simp at q
theorem of_hidT {h : Heap} {H : Hp} {b : Addr} {o : Obj} (e : (hidT h H).get? b = some o) : h.get? b = some o ∧ H b = none := by
 have e' : h.get? b = some o := PySem.W.of_hideAll (trk h H) e
 refine ⟨e', ?_⟩
 cases q : H b with
 | none => rfl
 | some x =>
  have hm : b ∈ trk h H := List.mem_filter.mpr ⟨List.mem_range.mpr (Heap.lt_size e'), by simp [q]⟩
  have z : (hidT h H).get? b = none := PySem.W.hideAll_none (trk h H) hm
  rw [z] at e; cases e
end L2
namespace L2
open PySem PySem.Spec PyProof.Rows
structure Mod (K : PySem.W.Frag) (mg : Str → Option Value) (base : Heap) : Prop where
 kin : K.In base
 glob : base.Ns mainGlobals mg
 blt : ∃ mb, base.Ns builtinsNs mb ∧ ∀ x : Str, x ≠ "__name__" → mb x = bootBuiltins x
 nolimit : base.NoLimit
structure Cx where
 prog : Program
 w : World
 K : PySem.W.Frag
 mg : Str → Option Value
 base : Heap
 A : Around
 N : List Str
 s₀ : Shared
 H₀ : Hp
 env : Env
 outer : List Env
 stack : List Env
 ex : List Addr
 fn : Str → Bool
 calm : Bool
 pn : List (Addr × Obj)
 xe : Value → Shared → Prop
noncomputable def frs (l : List Env) : List Addr := l.filterMap (·.frame)
noncomputable abbrev Cx.fs (X : Cx) : List Addr := frs X.outer
noncomputable def Vis (sc : Scope) (x : Str) : Prop := sc.names.lookup x = some .local ∨ sc.names.lookup x = some .cell ∨ sc.names.lookup x = some .free
noncomputable def Loc (sc : Scope) (x : Str) : Prop := sc.names.lookup x = some .local ∨ sc.names.lookup x = some .cell
noncomputable def Look (env : Env) (h : Heap) (m : Str → Option Value) (x : Str) (u : Value) : Prop :=
 (env.kindOf x = some .local ∧ m x = some u) ∨ ((env.kindOf x = some .cell ∨ env.kindOf x = some .free) ∧ ∃ c, env.cells.lookup x = some c ∧ h.IsCell c (some u))
structure Cx.Ok (X : Cx) : Prop where
 mod : Mod X.K X.mg X.base
 kind : X.env.scope.kind = .function
 glob : X.env.globals = mainGlobals
 blt : X.env.builtins = builtinsNs
 above : X.s₀.heap.objs.size ≤ X.env.locals
 inj : ∀ x y c, X.env.cells.lookup x = some c → X.env.cells.lookup y = some c → x = y
 has : ∀ x, (X.env.kindOf x = some .cell ∨ X.env.kindOf x = some .free) → ∃ c, X.env.cells.lookup x = some c
 cab : ∀ x c, X.fn x = true → X.env.cells.lookup x = some c → X.s₀.heap.objs.size ≤ c
 hd : X.calm = true → X.A.handled = none
 frames : X.A.frames = some X.stack
 stk : X.stack = X.outer ∨ (X.stack = X.env :: X.outer ∧ X.env.frame = some X.env.locals)
 exf : ∀ b ∈ X.ex, b ≠ X.env.locals ∧ ∀ x c, X.env.cells.lookup x = some c → c ≠ b
 bs : ∀ b o, X.base.get? b = some o → X.s₀.heap.get? b = some o ∧ X.H₀ b = none
 bsz : X.base.objs.size ≤ X.s₀.heap.objs.size
 noex : ∀ b o, X.base.get? b = some o → b ∉ X.ex
 exfs : ∀ b ∈ X.ex, b ∉ X.fs
 funs : X.s₀.heap.FunFrames X.base X.outer
 frf : ∀ b ∈ X.fs, X.H₀ b = none
structure Inv (X : Cx) (pins : List (Addr × Obj)) (σ : List (Option V)) (H : Hp) (s : Shared) : Prop where
 ok : X.Ok
 os : s.os = X.s₀.os
 bare : AllBare s.gens
 base : Un X.fs X.ex X.H₀ H X.s₀.heap s.heap
 loc : ∃ m, s.heap.Ns X.env.locals m ∧ ∀ (i : Nat) (x : Str) (v : V), X.N[i]? = some x → σ[i]? = some (some v) → Vis X.env.scope x → ∃ u, RelV v u ∧ Look X.env s.heap m x u
 cell : ∀ x c, X.env.cells.lookup x = some c → ∃ v, s.heap.IsCell c v
 free : H X.env.locals = none
 freeC : ∀ x c, X.env.cells.lookup x = some c → H c = none
 pin : ∀ p ∈ X.pn ++ pins, s.heap.get? p.1 = some p.2 ∧ H p.1 = none ∧ p.1 ≠ X.env.locals ∧ p.1 ∉ X.fs ∧ ∀ v, p.2.data ≠ .cell v
 hok : HOk X.prog X.w H s.heap
 len : σ.length = X.N.length
section
variable {X : Cx} {pins : List (Addr × Obj)} {σ : List (Option V)} {H H' : Hp} {s : Shared} {h' : Heap}
theorem Cx.Ok.nofr (ok : X.Ok) {b : Addr} {o : Obj} (e : X.base.get? b = some o) : b ∉ X.fs := fun hb => by
 have := (ok.funs.mem hb).1
 rw [e] at this; cases this
theorem Inv.bs (I : Inv X pins σ H s) : ∀ b o, X.base.get? b = some o → s.heap.get? b = some o ∧ H b = none := fun b o e =>
 ⟨I.base.keep b o (I.ok.bs b o e).1 (I.ok.bs b o e).2 (I.ok.nofr e) (I.ok.noex b o e), I.base.free b o (I.ok.bs b o e).1 (I.ok.bs b o e).2 (I.ok.noex b o e)⟩
theorem Inv.bk (I : Inv X pins σ H s) : ∀ b o, X.base.get? b = some o → s.heap.get? b = some o := fun b o e => (I.bs b o e).1
theorem Inv.mod (I : Inv X pins σ H s) : Mod X.K X.mg X.base := I.ok.mod
theorem Inv.kIn (I : Inv X pins σ H s) : X.K.In s.heap := I.ok.mod.kin.keeps I.bk
theorem Inv.lt (I : Inv X pins σ H s) : X.env.locals < s.heap.objs.size := let ⟨_, hn, _⟩ := I.loc; hn.lt
theorem Inv.sz (I : Inv X pins σ H s) : X.s₀.heap.objs.size ≤ s.heap.objs.size := Nat.le_trans I.ok.above (Nat.le_of_lt I.lt)
theorem Inv.nofs (I : Inv X pins σ H s) {a : Addr} (h : s.heap.objs.size ≤ a) : a ∉ X.fs := fun hb => by
 obtain ⟨_, o, ho, _⟩ := I.ok.funs.mem hb
 exact absurd (Nat.lt_of_lt_of_le (Heap.lt_size ho) (Nat.le_trans I.sz h)) (Nat.lt_irrefl _)
theorem Inv.cne (I : Inv X pins σ H s) : ∀ x c, X.env.cells.lookup x = some c → c ≠ X.env.locals := fun x c e z => by
 obtain ⟨v, o, ho, hd⟩ := I.cell x c e
 obtain ⟨m, ⟨o', es, ep, ho', hd', _⟩, _⟩ := I.loc
 rw [z, ho'] at ho; cases ho; rw [hd'] at hd; cases hd
theorem Inv.funs (I : Inv X pins σ H s) : s.heap.FunFrames X.base X.outer := by
 have all : ∀ (l : List Env), (∀ b ∈ frs l, b ∈ X.fs) → X.s₀.heap.FunFrames X.base l → s.heap.FunFrames X.base l := by
  intro l
  induction l with
  | nil => intro _ _; trivial
  | cons env r ih =>
   intro hs hl
   obtain ⟨hk, ⟨L, o, hf, hn, ho, hd⟩, hr⟩ := hl
   have hL : L ∈ X.fs := hs L (by unfold frs; rw [List.filterMap_cons, hf]; exact List.mem_cons_self)
   obtain ⟨sl, e⟩ := I.base.slot L o ho (I.ok.frf L hL) hL fun z => I.ok.exfs L z hL
   exact ⟨hk, ⟨L, _, hf, hn, e, hd⟩, ih (fun b hb => hs b (by unfold frs; rw [List.filterMap_cons, hf]; exact List.mem_cons_of_mem _ hb)) hr⟩
 exact all X.outer (fun _ hb => hb) I.ok.funs
theorem Inv.stack (I : Inv X pins σ H s) : s.heap.FunFrames X.base X.stack := by
 rcases I.ok.stk with e | ⟨e, hf⟩
 ·rw [e]; exact I.funs
 ·rw [e]
  obtain ⟨m, hn, _⟩ := I.loc
  refine .cons (by rw [I.ok.kind]; decide) hf hn ?_ I.funs
  exact Heap.get?_none_of_le (Nat.le_trans I.ok.bsz I.ok.above)
theorem Inv.stkSub (I : Inv X pins σ H s) : ∀ b ∈ frs X.stack, b ∈ X.env.locals :: X.fs := fun b hb => by
 rcases I.ok.stk with e | ⟨e, hf⟩
 ·rw [e] at hb; exact List.mem_cons_of_mem _ hb
 ·rw [e] at hb
  unfold frs at hb
  rw [List.filterMap_cons, hf] at hb
  exact hb
theorem Inv.stkFree (I : Inv X pins σ H s) : ∀ b ∈ frs X.stack, H b = none := fun b hb => by
 rcases List.mem_cons.mp (I.stkSub b hb) with e | hb
 ·rw [e]; exact I.free
 ·obtain ⟨_, o, ho, _⟩ := I.ok.funs.mem hb
  exact I.base.free b o ho (I.ok.frf b hb) fun z => I.ok.exfs b z hb
theorem Inv.step {g' : Array GenState} {t' : Nat} {d' : Drawn} {ch : List Addr} (I : Inv X pins σ H s)
  (hch : ∀ b ∈ ch, (b ∈ X.ex ∨ X.s₀.heap.objs.size ≤ b) ∧ b ≠ X.env.locals ∧ (∀ x c, X.env.cells.lookup x = some c → c ≠ b) ∧ ∀ p ∈ X.pn ++ pins, p.1 ≠ b)
  (keep : ∀ b o, b ≠ X.env.locals → b ∉ X.fs → b ∉ ch → s.heap.get? b = some o → H b = none → h'.get? b = some o)
  (slot : ∀ b o, b ≠ X.env.locals → b ∈ X.fs → b ∉ ch → s.heap.get? b = some o → H b = none → ∃ sl, h'.get? b = some { o with slots := sl }) (free : ∀ b o, b ∉ ch → s.heap.get? b = some o → H b = none → H' b = none)
  (there : ∀ b o, b ∉ ch → s.heap.get? b = some o → ∃ o', h'.get? b = some o')
  (tups : ∀ b xs, H b = some (.tup xs) → H' b = some (.tup xs)) (frzs : ∀ b o u, H b = some (.frz o u) → H' b = some (.frz o u)) (tbls : ∀ b ps, H b = some (.tbl ps) → ∃ more, H' b = some (.tbl (ps ++ more)))
  (ns : ∀ m, s.heap.Ns X.env.locals m → h'.Ns X.env.locals m) (hok : HOk X.prog X.w H' h') (hg : AllBare g') :
  Inv X pins σ H' { s with heap := h', gens := g', drawn := d', toks := t' } := by
 have neL : ∀ b o, X.s₀.heap.get? b = some o → b ≠ X.env.locals := fun b o e => Nat.ne_of_lt (Nat.lt_of_lt_of_le (Heap.lt_size e) I.ok.above)
 have neC : ∀ b o, X.s₀.heap.get? b = some o → b ∉ X.ex → b ∉ ch := fun b o e hx hb => by
  rcases (hch b hb).1 with z | z
  ·exact hx z
  ·exact absurd (Nat.lt_of_lt_of_le (Heap.lt_size e) z) (Nat.lt_irrefl _)
 have cellK : ∀ x c, X.env.cells.lookup x = some c → ∀ v, s.heap.IsCell c v → h'.IsCell c v := fun x c e v ⟨o, ho, hd⟩ => by
  have nch : c ∉ ch := fun z => (hch c z).2.2.1 x c e rfl
  by_cases hc : c ∈ X.fs
  ·obtain ⟨sl, q⟩ := slot c o (I.cne x c e) hc nch ho (I.freeC x c e)
   exact ⟨_, q, hd⟩
  ·exact ⟨o, keep c o (I.cne x c e) hc nch ho (I.freeC x c e), hd⟩
 refine ⟨I.ok, I.os, hg, ⟨fun b o e n hb hx => ?_, fun b o e n hb hx => ?_, fun b o e n hx => ?_, fun b o e hx => ?_, fun b xs e => tups b xs (I.base.tups b xs e), fun b o xs e => frzs b o xs (I.base.frzs b o xs e), fun b ps e => ?_⟩, ?_, fun x c e => ?_, ?_, fun x c e => ?_, fun p hp => ?_, hok, I.len⟩
 ·exact keep b o (neL b o e) hb (neC b o e hx) (I.base.keep b o e n hb hx) (I.base.free b o e n hx)
 ·obtain ⟨sl, e1⟩ := I.base.slot b o e n hb hx
  obtain ⟨sl', e2⟩ := slot b _ (neL b o e) hb (neC b o e hx) e1 (I.base.free b o e n hx)
  exact ⟨sl', e2⟩
 ·obtain ⟨o', e1⟩ := I.base.there b o e hx
  exact free b o' (neC b o e hx) e1 (I.base.free b o e n hx)
 ·obtain ⟨o', e1⟩ := I.base.there b o e hx
  exact there b o' (neC b o e hx) e1
 ·obtain ⟨m1, e1⟩ := I.base.tbls b ps e
  obtain ⟨m2, e2⟩ := tbls b _ e1
  exact ⟨m1 ++ m2, by rw [e2, Array.append_assoc]⟩
 ·obtain ⟨m, hn, hl⟩ := I.loc
  refine ⟨m, ns m hn, fun i x v e1 e2 e3 => ?_⟩
  obtain ⟨u, r, l⟩ := hl i x v e1 e2 e3
  refine ⟨u, r, ?_⟩
  rcases l with l | ⟨k, c, e, z⟩
  ·exact .inl l
  ·exact .inr ⟨k, c, e, cellK x c e _ z⟩
 ·obtain ⟨v, z⟩ := I.cell x c e
  exact ⟨v, cellK x c e v z⟩
 ·obtain ⟨m, ⟨o, _, _, ho, _⟩, _⟩ := I.loc
  exact free _ o (fun z => (hch _ z).2.1 rfl) ho I.free
 ·obtain ⟨v, o, ho, hd⟩ := I.cell x c e
  exact free c o (fun z => (hch c z).2.2.1 x c e rfl) ho (I.freeC x c e)
 ·obtain ⟨e, n, ne, nf, d⟩ := I.pin p hp
  have nch : p.1 ∉ ch := fun z => (hch p.1 z).2.2.2 p hp rfl
  exact ⟨keep p.1 p.2 ne nf nch e n, free p.1 p.2 nch e n, ne, nf, d⟩
theorem Inv.un {t' : Nat} (I : Inv X pins σ H s) (u : Un X.fs [] H H' s.heap h') (hok : HOk X.prog X.w H' h') : Inv X pins σ H' { s with heap := h', toks := t' } := by
 obtain ⟨m, ⟨o, es, ep, ho, r⟩, _⟩ := id I.loc
 obtain ⟨sl, hL⟩ := u.any ho I.free (by simp)
 exact I.step (g' := s.gens) (d' := s.drawn) (ch := []) (fun _ z => nomatch z) (fun b o _ hb _ e n => u.keep b o e n hb (by simp)) (fun b o _ hb _ e n => u.slot b o e n hb (by simp)) (fun b o _ e n => u.free b o e n (by simp)) (fun b o _ e => u.there b o e (by simp)) u.tups u.frzs u.tbls (fun m' hm => by
  obtain ⟨o', es', ep', ho', r'⟩ := hm
  rw [ho] at ho'; cases ho'
  exact ⟨_, es', ep', hL, r'⟩) hok I.bare
theorem Inv.call {g' : Array GenState} {t' : Nat} {d' : Drawn} {ch : List Addr} (I : Inv X pins σ H s) (u : Un (frs X.stack) ch H H' s.heap h') (hok : HOk X.prog X.w H' h') (hg : AllBare g')
  (hch : ∀ b ∈ ch, (b ∈ X.ex ∨ X.s₀.heap.objs.size ≤ b) ∧ b ≠ X.env.locals ∧ (∀ x c, X.env.cells.lookup x = some c → c ≠ b) ∧ ∀ p ∈ X.pn ++ pins, p.1 ≠ b) :
  Inv X pins σ H' { s with heap := h', gens := g', drawn := d', toks := t' } := by
 obtain ⟨m, ⟨o, es, ep, ho, r⟩, _⟩ := id I.loc
 obtain ⟨sl, hL⟩ := u.any ho I.free fun z => (hch _ z).2.1 rfl
 exact I.step (ch := ch) hch (fun b o hL hb hc e n => u.keep b o e n (fun z => (List.mem_cons.mp (I.stkSub b z)).elim hL hb) hc) (fun b o _ _ hc e n => u.any e n hc) (fun b o hc e n => u.free b o e n hc) (fun b o hc e => u.there b o e hc) u.tups u.frzs u.tbls (fun m' hm => by
  obtain ⟨o', es', ep', ho', r'⟩ := hm
  rw [ho] at ho'; cases ho'
  exact ⟨_, es', ep', hL, r'⟩) hok hg
theorem Inv.turned {t' : Nat} {it : Addr} (I : Inv X pins σ H s) (k : ∀ b o, b ≠ it → s.heap.get? b = some o → h'.get? b = some o) (hn : H it = none) (hL : it ≠ X.env.locals)
  (h1 : it ∈ X.ex ∨ X.s₀.heap.objs.size ≤ it) (h2 : ∀ x c, X.env.cells.lookup x = some c → c ≠ it) (h3 : ∀ p ∈ X.pn ++ pins, p.1 ≠ it) : Inv X pins σ H { s with heap := h', toks := t' } := by
 have nit : ∀ b u, H b = some u → b ≠ it := fun b u e z => by rw [z, hn] at e; cases e
 refine I.step (g' := s.gens) (d' := s.drawn) (ch := [it]) (fun b hb => ?_) (fun b o _ _ hc e _ => k b o (fun z => hc (by simp [z])) e) (fun b o _ _ hc e _ => ⟨o.slots, k b o (fun z => hc (by simp [z])) e⟩) (fun _ _ _ _ n => n)
  (fun b o hc e => ⟨o, k b o (fun z => hc (by simp [z])) e⟩) (fun _ _ e => e) (fun _ _ _ e => e) (fun b ps e => ⟨#[], by rw [e]; simp⟩) (fun m hm => ?_) (fun b u e => ?_) I.bare
 ·have e : b = it := by simpa using hb
  subst e
  exact ⟨h1, hL, h2, h3⟩
 ·obtain ⟨o, es, ep, ho, r⟩ := hm
  exact ⟨o, es, ep, k _ o (Ne.symm hL) ho, r⟩
 ·refine (I.hok b u e).stay (fun c v hc q => k c v ?_ q) (fun _ q => q) fun _ _ q => q
  rcases hc with z | z
  ·rw [z]; exact nit b u e
  ·exact nit c _ z
theorem Inv.tok (I : Inv X pins σ H s) (t : Nat) : Inv X pins σ H { s with toks := t } := I.un (h' := s.heap) (t' := t) Un.refl I.hok
theorem Inv.kept {t' : Nat} (I : Inv X pins σ H s) (k : ∀ b u, s.heap.get? b = some u → h'.get? b = some u) : Inv X pins σ H { s with heap := h', toks := t' } := I.un (Un.kept k) (I.hok.kept k)
theorem Inv.laid {a : Addr} {o : HO} {t' : Nat} (I : Inv X pins σ H s) (k : ∀ b u, s.heap.get? b = some u → h'.get? b = some u) (hp : s.heap.objs.size ≤ a) (new : ObjOk X.prog X.w (upd H a o) h' a o) :
  Inv X pins σ (upd H a o) { s with heap := h', toks := t' } := I.un (Un.laid k hp (I.hok.fresh hp)) (I.hok.laid k hp new)
theorem Inv.write {x e : Addr} {o : HO} {t' : Nat} (I : Inv X pins σ H s) (mu : Mut (H x)) (he : e = x ∨ H e = some (.own x)) (k : ∀ b u, b ≠ e → s.heap.get? b = some u → h'.get? b = some u) (heo : ∃ u, h'.get? e = some u)
  (new : ObjOk X.prog X.w (upd H x o) h' x o) : Inv X pins σ (upd H x o) { s with heap := h', toks := t' } := I.un (Un.write mu he k heo) (I.hok.write mu he k heo new)
theorem Inv.pins_of {pins' : List (Addr × Obj)} (I : Inv X pins σ H s) (h : ∀ p ∈ pins', s.heap.get? p.1 = some p.2 ∧ H p.1 = none ∧ p.1 ≠ X.env.locals ∧ p.1 ∉ X.fs ∧ ∀ v, p.2.data ≠ .cell v) : Inv X pins' σ H s :=
 ⟨I.ok, I.os, I.bare, I.base, I.loc, I.cell, I.free, I.freeC, fun p hp => (List.mem_append.mp hp).elim (fun z => I.pin p (List.mem_append_left _ z)) (h p), I.hok, I.len⟩
theorem nodup_ix {N : List Str} (hN : N.Nodup) {i j : Nat} {x : Str} (a : N[i]? = some x) (b : N[j]? = some x) : i = j := by
 obtain ⟨h1, e1⟩ := List.getElem?_eq_some_iff.mp a
 obtain ⟨h2, e2⟩ := List.getElem?_eq_some_iff.mp b
 exact (List.getElem_inj hN).mp (e1.trans e2.symm)
theorem store_ok2 {M : Model} {A : Around} {E : Value → Shared → Prop} {i : Nat} {x : Str} {v : V} {u : Value} {Q : Unit → Shared → Prop} (I : Inv X pins σ H s) (hN : X.N.Nodup) (hi : X.N[i]? = some x) (hx : Loc X.env.scope x) (r : RelV v u)
  (h : ∀ s', Inv X pins (σ.set i (some v)) H s' → (∃ a, Heap.SameBut a s.heap s'.heap ∧ (a = X.env.locals ∨ X.env.cells.lookup x = some a)) → Q () s') (hf : X.fn x = true ∨ X.env.scope.names.lookup x = some .local := by first | exact .inl rfl | exact .inr rfl | assumption) : wpAny M A (storeName X.env x u) Q E s := by
 obtain ⟨m, hn, hl⟩ := id I.loc
 have hcls : (X.env.scope.kind == .class || (X.env.scope.kind == .module && X.env.locals != X.env.globals)) = false := by rw [I.ok.kind]; rfl
 have hiσ : i < σ.length := by rw [I.len]; exact (List.getElem?_eq_some_iff.mp hi).1
 have cne := I.cne
 have tracked : ∀ {a : Addr} {h' : Heap}, (∃ o, s.heap.get? a = some o ∧ H a = none) → Heap.SameBut a s.heap h' → HOk X.prog X.w H h' := fun {a h'} ha hs b ob e => by
  obtain ⟨_, _, hfree⟩ := ha
  refine (I.hok b ob e).stay (fun c w' hc q => (hs.2 c ?_).trans q) (fun _ q => q) fun _ _ q => q
  rintro rfl
  rcases hc with rfl | hc
  ·rw [hfree] at e; cases e
  ·rw [hfree] at hc; cases hc
 rcases hx with hk | hk
 ·refine wpAny_storeName_local hk hn (fun h' hn' hs => ?_) hcls
  obtain ⟨oL, _, _, hoL, _⟩ := id hn
  refine h _ ⟨I.ok, I.os, I.bare, ⟨fun b o e n hb hx => ?_, fun b o e n hb hx => ?_, I.base.free, fun b o e hx => ?_, I.base.tups, I.base.frzs, I.base.tbls⟩, ⟨_, hn', fun j y v' e1 e2 e3 => ?_⟩, fun y c e => ?_, I.free, I.freeC, fun p hp => ?_, tracked ⟨oL, hoL, I.free⟩ hs, by simpa using I.len⟩ ⟨_, hs, .inl rfl⟩
  ·exact (hs.2 b (Nat.ne_of_lt (Nat.lt_of_lt_of_le (Heap.lt_size e) I.ok.above))).trans (I.base.keep b o e n hb hx)
  ·obtain ⟨sl, e1⟩ := I.base.slot b o e n hb hx
   exact ⟨sl, (hs.2 b (Nat.ne_of_lt (Nat.lt_of_lt_of_le (Heap.lt_size e) I.ok.above))).trans e1⟩
  ·obtain ⟨o', e1⟩ := I.base.there b o e hx
   exact ⟨o', (hs.2 b (Nat.ne_of_lt (Nat.lt_of_lt_of_le (Heap.lt_size e) I.ok.above))).trans e1⟩
  ·by_cases hj : j = i
   ·subst hj
    rw [hi] at e1; cases e1
    rw [List.getElem?_set_self hiσ] at e2
    cases e2
    exact ⟨u, r, .inl ⟨hk, by simp⟩⟩
   ·rw [List.getElem?_set_ne (Ne.symm hj)] at e2
    obtain ⟨u', r', q⟩ := hl j y v' e1 e2 e3
    refine ⟨u', r', ?_⟩
    rcases q with ⟨k, e⟩ | ⟨k, c, e, z⟩
    ·refine .inl ⟨k, ?_⟩
     have : y ≠ x := fun e => hj (nodup_ix hN e1 (e ▸ hi))
     simp [this, e]
    ·exact .inr ⟨k, c, e, z.sameBut hs (cne y c e)⟩
  ·obtain ⟨w', z⟩ := I.cell y c e
   exact ⟨w', z.sameBut hs (cne y c e)⟩
  ·obtain ⟨e, n, ne, nf, d⟩ := I.pin p hp
   exact ⟨(hs.2 p.1 ne).trans e, n, ne, nf, d⟩
 ·have hfn : X.fn x = true := by
   rcases hf with z | z
   ·exact z
   ·rw [z] at hk; cases hk
  obtain ⟨c, hc⟩ := I.ok.has x (.inl hk)
  obtain ⟨w', z⟩ := I.cell x c hc
  refine wpAny_storeName_cell I.ok.kind hk hc z (fun h' hc' hs => ?_)
  obtain ⟨oc, hoc, hocd⟩ := id z
  refine h { s with heap := h' } ⟨I.ok, I.os, I.bare, ⟨fun b o e n hb hx => ?_, fun b o e n hb hx => ?_, I.base.free, fun b o e hx => ?_, I.base.tups, I.base.frzs, I.base.tbls⟩, ⟨m, hn.sameBut hs (Ne.symm (cne x c hc)), fun j y v' e1 e2 e3 => ?_⟩, fun y c' e => ?_, I.free, I.freeC, fun p hp => ?_, tracked ⟨oc, hoc, I.freeC x c hc⟩ hs, by simpa using I.len⟩ ⟨c, hs, .inr hc⟩
  ·exact (hs.2 b (Nat.ne_of_lt (Nat.lt_of_lt_of_le (Heap.lt_size e) (I.ok.cab x c hfn hc)))).trans (I.base.keep b o e n hb hx)
  ·obtain ⟨sl, e1⟩ := I.base.slot b o e n hb hx
   exact ⟨sl, (hs.2 b (Nat.ne_of_lt (Nat.lt_of_lt_of_le (Heap.lt_size e) (I.ok.cab x c hfn hc)))).trans e1⟩
  ·obtain ⟨o', e1⟩ := I.base.there b o e hx
   exact ⟨o', (hs.2 b (Nat.ne_of_lt (Nat.lt_of_lt_of_le (Heap.lt_size e) (I.ok.cab x c hfn hc)))).trans e1⟩
  ·by_cases hj : j = i
   ·subst hj
    rw [hi] at e1; cases e1
    rw [List.getElem?_set_self hiσ] at e2
    cases e2
    exact ⟨u, r, .inr ⟨.inl hk, c, hc, hc'⟩⟩
   ·rw [List.getElem?_set_ne (Ne.symm hj)] at e2
    obtain ⟨u', r', q⟩ := hl j y v' e1 e2 e3
    refine ⟨u', r', ?_⟩
    rcases q with q | ⟨k, c', e, z'⟩
    ·exact .inl q
    ·refine .inr ⟨k, c', e, z'.sameBut hs ?_⟩
     rintro rfl
     exact hj (nodup_ix hN e1 (I.ok.inj _ _ _ e hc ▸ hi))
  ·by_cases hcc : c' = c
   ·subst hcc; exact ⟨_, hc'⟩
   ·obtain ⟨w2, z2⟩ := I.cell y c' e
    exact ⟨w2, z2.sameBut hs hcc⟩
  ·obtain ⟨e, n, ne, nf, d⟩ := I.pin p hp
   refine ⟨(hs.2 p.1 ?_).trans e, n, ne, nf, d⟩
   intro q
   rw [q, hoc] at e
   have q' : oc = p.2 := Option.some.inj e
   exact d w' (by rw [← q']; exact hocd)
theorem store_ok {M : Model} {A : Around} {E : Value → Shared → Prop} {i : Nat} {x : Str} {v : V} {u : Value} {Q : Unit → Shared → Prop} (I : Inv X pins σ H s) (hN : X.N.Nodup) (hi : X.N[i]? = some x) (hx : Loc X.env.scope x) (r : RelV v u)
  (h : ∀ s', Inv X pins (σ.set i (some v)) H s' → Q () s') (hf : X.fn x = true ∨ X.env.scope.names.lookup x = some .local := by first | exact .inl rfl | exact .inr rfl | assumption) : wpAny M A (storeName X.env x u) Q E s :=
 store_ok2 I hN hi hx r (fun s' I' _ => h s' I') hf
theorem Inv.call' {s' : Shared} {ch : List Addr} (I : Inv X pins σ H s) (ho : s'.os = s.os) (u : Un (frs X.stack) ch H H' s.heap s'.heap) (hok : HOk X.prog X.w H' s'.heap) (hg : AllBare s'.gens)
  (hch : ∀ b ∈ ch, (b ∈ X.ex ∨ X.s₀.heap.objs.size ≤ b) ∧ b ≠ X.env.locals ∧ (∀ x c, X.env.cells.lookup x = some c → c ≠ b) ∧ ∀ p ∈ X.pn ++ pins, p.1 ≠ b) : Inv X pins σ H' s' := by
 obtain ⟨h', g', d', t', o'⟩ := s'
 have e : o' = s.os := ho
 subst e
 exact I.call (g' := g') (t' := t') (d' := d') u hok hg hch
end
noncomputable abbrev XK := Value → Option Addr → Hp → Prop
noncomputable abbrev St := List (Option V)
noncomputable abbrev VK := V → Hp → Prop
noncomputable abbrev TE := St → Hp → VK → Prop
noncomputable abbrev TT := St → Hp → (Bool → Hp → Prop) → Prop
noncomputable abbrev TA := St → Hp → (List V → Hp → Prop) → Prop
structure Ends where
 nx : St → Hp → Prop
 rt : VK
 bk : St → Hp → Prop := fun _ _ => False
 ct : St → Hp → Prop := fun _ _ => False
noncomputable abbrev TS := Ends → St → Hp → Prop
noncomputable def EP (X : Cx) (pins : List (Addr × Obj)) (σ : St) (Q : VK) (u : Value) (s' : Shared) : Prop := ∃ v H', Inv X pins σ H' s' ∧ RelV v u ∧ Q v H'
noncomputable def TP (X : Cx) (pins : List (Addr × Obj)) (σ : St) (Q : Bool → Hp → Prop) (b : Bool) (s' : Shared) : Prop := ∃ H', Inv X pins σ H' s' ∧ Q b H'
noncomputable def AP (X : Cx) (pins : List (Addr × Obj)) (σ : St) (Q : List V → Hp → Prop) (us : List Value) (s' : Shared) : Prop := ∃ vs H', Inv X pins σ H' s' ∧ Vals vs us ∧ Q vs H'
noncomputable def SP (X : Cx) (pins : List (Addr × Obj)) (D : Ends) (f : Flow) (s' : Shared) : Prop :=
 match f with
 | .next => ∃ σ' H', Inv X pins σ' H' s' ∧ D.nx σ' H'
 | .brk => ∃ σ' H', Inv X pins σ' H' s' ∧ D.bk σ' H'
 | .cont => ∃ σ' H', Inv X pins σ' H' s' ∧ D.ct σ' H'
 | .ret u => ∃ v σ' H', Inv X pins σ' H' s' ∧ RelV v u ∧ D.rt v H'
noncomputable def PE (X : Cx) (e : Expr) (t : TE) : Prop :=
 ∀ (pins : List (Addr × Obj)) (s : Shared) (σ : St) (H : Hp) (Q : VK), Inv X pins σ H s → t σ H Q → wpAny (model X.prog X.w) X.A (eval e X.env) (EP X pins σ Q) X.xe s
noncomputable def PT (X : Cx) (e : Expr) (t : TT) : Prop :=
 ∀ (pins : List (Addr × Obj)) (s : Shared) (σ : St) (H : Hp) (Q : Bool → Hp → Prop), Inv X pins σ H s → t σ H Q → wpAny (model X.prog X.w) X.A (isTrue e X.env (eval e X.env)) (TP X pins σ Q) X.xe s
noncomputable def PW (X : Cx) (e : Expr) (t : TT) : Prop :=
 ∀ (whole : Sem Value) (pins : List (Addr × Obj)) (s : Shared) (σ : St) (H : Hp) (Q : Bool → Hp → Prop), Inv X pins σ H s → t σ H Q → wpAny (model X.prog X.w) X.A (isTrue e X.env whole) (TP X pins σ Q) X.xe s
theorem PW.pt {X : Cx} {e : Expr} {t : TT} (h : PW X e t) : PT X e t := h _
noncomputable def PA (X : Cx) (es : List Expr) (t : TA) : Prop :=
 ∀ (pos : Pos) (pins : List (Addr × Obj)) (s : Shared) (σ : St) (H : Hp) (Q : List V → Hp → Prop), Inv X pins σ H s → t σ H Q → wpAny (model X.prog X.w) X.A (spliced (backTo pos (starEach es X.env))) (AP X pins σ Q) X.xe s
noncomputable def PS (X : Cx) (st : Stmt) (t : TS) : Prop :=
 ∀ (pins : List (Addr × Obj)) (s : Shared) (σ : St) (H : Hp) (D : Ends), Inv X pins σ H s → t D σ H → wpAny (model X.prog X.w) X.A (exec st X.env) (SP X pins D) X.xe s
noncomputable def PSs (X : Cx) (st : List Stmt) (t : TS) : Prop :=
 ∀ (pins : List (Addr × Obj)) (s : Shared) (σ : St) (H : Hp) (D : Ends), Inv X pins σ H s → t D σ H → wpAny (model X.prog X.w) X.A (execs st X.env) (SP X pins D) X.xe s
theorem thn {α : Type} {t : Sem α} {Q Q' : α → Shared → Prop} {M : Model} {A : Around} {E : Value → Shared → Prop} {s : Shared} (h : wpAny M A t Q E s) (hQ : ∀ a s, Q a s → Q' a s) : wpAny M A t Q' E s := wpAny_mono h hQ fun _ _ x => x
end L2
namespace L2
open PySem PySem.Spec PyProof.Rows
section
variable {X : Cx}
noncomputable def tVar (i : Nat) : TE := fun σ H Q => ∃ v, σ[i]? = some (some v) ∧ Q v H
noncomputable def tC (v : V) : TE := fun _ H Q => Q v H
theorem pe_var {i : Nat} {x : Str} {pos : Pos} (hN : X.N[i]? = some x) (hv : Vis X.env.scope x) (hd : (x == ("__debug__" : Str)) = false := by decide) (hcd : (x == ("__classdict__" : Str)) = false := by decide) : PE X (.Name x pos) (tVar i) := by
 intro pins s σ H Q I h
 obtain ⟨v, e, h⟩ := h
 obtain ⟨m, hn, hl⟩ := I.loc
 obtain ⟨u, r, l⟩ := hl i x v hN e hv
 have fin : EP X pins σ Q u s := ⟨v, H, I, r, h⟩
 rcases l with ⟨hk, hm⟩ | ⟨hk, c, hc, hcell⟩
 ·exact wpAny_Name (wpAny_loadName_local I.ok.kind hk hn hm fin) hd
 ·rcases hk with hk | hk
  ·exact wpAny_Name (wpAny_loadName_cell I.ok.kind hk hc hcell fin) hd
  ·exact wpAny_Name (wpAny_loadName_free I.ok.kind hk hc hcell fin hcd) hd
theorem pe_int {i j pos} : PE X (.Constant (.int i) j pos) (tC (.int i)) := fun _ _ _ H _ I h => wpAny_Constant_int ⟨.int i, H, I.tok _, ⟨_, rfl⟩, h⟩
theorem pe_bl {b j pos} : PE X (.Constant (.bool b) j pos) (tC (.bl b)) := fun _ _ _ H _ I h => Constant_bool ⟨.bl b, H, I, rfl, h⟩
theorem pe_non {j pos} : PE X (.Constant .none j pos) (tC .non) := fun _ _ _ H _ I h => Constant_none ⟨.non, H, I, rfl, h⟩
theorem pe_str {x j pos} : PE X (.Constant (.str x) j pos) (tC (.str x)) := fun _ _ _ H _ I h => Calls.Constant_str ⟨.str x, H, I.tok _, ⟨_, rfl⟩, h⟩
noncomputable def Gl (X : Cx) (x : Str) : Prop := X.env.kindOf x = some .globalImplicit
theorem ld_glob {E : Value → Shared → Prop} {pins : List (Addr × Obj)} {s : Shared} {σ : St} {H : Hp} {x : Str} {u : Value} {pos : Pos} {Q : Value → Shared → Prop} (I : Inv X pins σ H s) (hg : Gl X x) (hm : X.mg x = some u) (h : Q u s)
  (hd : (x == ("__debug__" : Str)) = false := by decide) : wpAny (model X.prog X.w) X.A (eval (.Name x pos) X.env) Q E s :=
 Calls.Name_function_global I.ok.kind hg (Calls.loadGlobal_global (by rw [I.ok.glob]; exact I.mod.glob.keeps I.bk) hm h) hd
theorem ld_blt {E : Value → Shared → Prop} {pins : List (Addr × Obj)} {s : Shared} {σ : St} {H : Hp} {x : Str} {u : Value} {pos : Pos} {Q : Value → Shared → Prop} (I : Inv X pins σ H s) (hg : Gl X x) (hm : X.mg x = none) (hv : bootBuiltins x = some u) (h : Q u s)
  (hn : x ≠ "__name__" := by decide) (hd : (x == ("__debug__" : Str)) = false := by decide) : wpAny (model X.prog X.w) X.A (eval (.Name x pos) X.env) Q E s := by
 obtain ⟨mb, h1, h2⟩ := I.mod.blt
 exact Calls.Name_function_global I.ok.kind hg (Calls.loadGlobal_builtin (by rw [I.ok.glob]; exact I.mod.glob.keeps I.bk) hm (by rw [I.ok.blt]; exact h1.keeps I.bk) ((h2 x hn).trans hv) h) hd
theorem pe_glob {x : Str} {v : V} {u : Value} {pos : Pos} (hg : Gl X x) (hm : X.mg x = some u) (r : RelV v u) (hd : (x == ("__debug__" : Str)) = false := by decide) : PE X (.Name x pos) (tC v) :=
 fun _ _ _ H _ I h => ld_glob I hg hm ⟨v, H, I, r, h⟩ hd
theorem pe_bltn {x : Str} {v : V} {u : Value} {pos : Pos} (hg : Gl X x) (hm : X.mg x = none) (hv : bootBuiltins x = some u) (r : RelV v u) (hn : x ≠ "__name__" := by decide) (hd : (x == ("__debug__" : Str)) = false := by decide) : PE X (.Name x pos) (tC v) :=
 fun _ _ _ H _ I h => ld_blt I hg hm hv ⟨v, H, I, r, h⟩ hn hd
variable {a b : Expr} {ta tb : TE} {pos : Pos}
noncomputable def PC (X : Cx) (op : CmpOp) (a b : Expr) (t : TE) : Prop :=
 ∀ (pins : List (Addr × Obj)) (s : Shared) (σ : St) (H : Hp) (Q : VK), Inv X pins σ H s → t σ H Q →
  wpAny (model X.prog X.w) X.A (eval a X.env) (fun v s₁ => wpAny (model X.prog X.w) X.A (eval b X.env) (fun u s₂ => wpAny (model X.prog X.w) X.A (compareOp op v u) (EP X pins σ Q) X.xe s₂) X.xe s₁) X.xe s
noncomputable def tB (t : TE) : TT := fun σ H Q => t σ H fun x H1 => ∃ c, x = .bl c ∧ Q c H1
theorem pt_cmp {op : CmpOp} {t : TE} (h : PC X op a b t) (h1 : behindInMarks op b = false := by first | exact nobehind _ (by decide) (by decide) | rfl) : PT X (.Compare a [op] [b] pos) (tB t) := by
 intro pins s σ H Q I hw
 refine wpAny_isTrue_Compare1 (thn (h pins s σ H _ I hw) fun v s1 h1 => thn h1 fun u s2 h2 => thn h2 fun c s3 ⟨x, H1, I1, r1, q1⟩ => ?_) h1
 obtain ⟨d, rfl, q⟩ := q1
 cases r1
 exact wpAny_truthy_bool ⟨H1, I1, q⟩
theorem pt_val {e : Expr} {t : TE} (h : PE X e t) (he : ∀ whole, isTrue e X.env whole = (do let v ← whole; standAt e.pos; holding [v] (truthy v)) := by intro _; rfl) : PT X e (tB t) := by
 intro pins s σ H Q I hw
 refine isTrue_plain (thn (h pins s σ H _ I hw) fun v s1 ⟨x, H1, I1, r1, q1⟩ => ?_) (he _)
 obtain ⟨d, rfl, q⟩ := q1
 cases r1
 exact wpAny_truthy_bool ⟨H1, I1, q⟩
variable {tA tB' : TT} {rest : List Expr}
noncomputable def tAnd (t u : TT) : TT := fun σ H Q => t σ H fun c H1 => if c = true then u σ H1 Q else Q false H1
noncomputable def tOr (t u : TT) : TT := fun σ H Q => t σ H fun c H1 => if c = true then Q true H1 else u σ H1 Q
noncomputable def tNot (t : TT) : TT := fun σ H Q => t σ H fun c H1 => Q (!c) H1
theorem pw_and1 (ha : PT X a tA) : PW X (.BoolOp .And [a] pos) tA := by
 intro wh pins s σ H Q I h
 refine isTrue_and (thn (ha pins s σ H Q I h) fun c s1 e => ?_)
 cases c with
 | true => exact isTrue_and_nil e
 | false => exact e
theorem pw_or1 (ha : PT X a tA) : PW X (.BoolOp .Or [a] pos) tA := by
 intro wh pins s σ H Q I h
 refine isTrue_or (thn (ha pins s σ H Q I h) fun c s1 e => ?_)
 cases c with
 | false => exact isTrue_or_nil e
 | true => exact e
theorem pw_and (ha : PT X a tA) (hb : PW X (.BoolOp .And (b :: rest) pos) tB') : PW X (.BoolOp .And (a :: b :: rest) pos) (tAnd tA tB') := by
 intro wh pins s σ H Q I h
 refine isTrue_and (thn (ha pins s σ H _ I h) fun c s1 ⟨H1, I1, q1⟩ => ?_)
 cases c with
 | true => exact hb wh pins s1 σ H1 Q I1 q1
 | false => exact ⟨H1, I1, q1⟩
theorem pw_or (ha : PT X a tA) (hb : PW X (.BoolOp .Or (b :: rest) pos) tB') : PW X (.BoolOp .Or (a :: b :: rest) pos) (tOr tA tB') := by
 intro wh pins s σ H Q I h
 refine isTrue_or (thn (ha pins s σ H _ I h) fun c s1 ⟨H1, I1, q1⟩ => ?_)
 cases c with
 | true => exact ⟨H1, I1, q1⟩
 | false => exact hb wh pins s1 σ H1 Q I1 q1
theorem pt_not (ha : PT X a tA) : PT X (.UnaryOp .Not a pos) (tNot tA) := by
 intro pins s σ H Q I h
 exact isTrue_not (ha pins s σ H (fun c H1 => Q (!c) H1) I h)
noncomputable def tAndV (ta tb : TE) : TE := fun σ H Q => ta σ H fun x H1 => ∃ c, x = .bl c ∧ if c = true then tb σ H1 Q else Q (.bl false) H1
noncomputable def tOrV (ta tb : TE) : TE := fun σ H Q => ta σ H fun x H1 => ∃ c, x = .bl c ∧ if c = true then Q (.bl true) H1 else tb σ H1 Q
noncomputable def tNotV (ta : TE) : TE := fun σ H Q => ta σ H fun x H1 => ∃ c, x = .bl c ∧ Q (.bl (!c)) H1
theorem pe_one {op} {t : TE} (h : PE X a t) : PE X (.BoolOp op [a] pos) t := fun pins s σ H Q I hw => BoolOp_one (h pins s σ H Q I hw)
theorem pe_and (ha : PE X a ta) (hb : PE X (.BoolOp .And (b :: rest) pos) tb) : PE X (.BoolOp .And (a :: b :: rest) pos) (tAndV ta tb) := by
 intro pins s σ H Q I h
 refine BoolOp_and (thn (ha pins s σ H _ I h) fun v s1 ⟨x, H1, I1, r1, q1⟩ => ?_)
 obtain ⟨c, rfl, q1⟩ := q1
 cases r1
 refine wpAny_truthy_bool ?_
 cases c with
 | true => exact hb pins s1 σ H1 Q I1 q1
 | false => exact ⟨.bl false, H1, I1, rfl, q1⟩
theorem pe_not (ha : PE X a ta) : PE X (.UnaryOp .Not a pos) (tNotV ta) := by
 intro pins s σ H Q I h
 refine UnaryOp_ (thn (ha pins s σ H _ I h) fun v s1 ⟨x, H1, I1, r1, q1⟩ => ?_)
 obtain ⟨c, rfl, q1⟩ := q1
 cases r1
 exact not_of (wpAny_truthy_bool ⟨.bl (!c), H1, I1, rfl, q1⟩)
noncomputable def tIf (t : TT) (ta tb : TE) : TE := fun σ H Q => t σ H fun c H1 => if c = true then ta σ H1 Q else tb σ H1 Q
theorem pe_ifExp {c : Expr} (hc : PT X c tA) (ha : PE X a ta) (hb : PE X b tb) : PE X (.IfExp c a b pos) (tIf tA ta tb) := by
 intro pins s σ H Q I h
 refine wpAny_IfExp (thn (hc pins s σ H _ I h) fun d s1 ⟨H1, I1, q1⟩ => ?_)
 cases d with
 | true => exact ha pins s1 σ H1 Q I1 q1
 | false => exact hb pins s1 σ H1 Q I1 q1
end
end L2
namespace L2
open PySem PySem.Spec PyProof.Rows
noncomputable def SqL (K : PySem.W.Frag) (H : Hp) (a : Addr) (xs : List V) : Prop :=
 Rd H a (.lst xs) ∨
  ∃ (o : Obj) (its : Array Value) (n : Nat), K.lookup a = some o ∧ o.cls = .type "list" ∧ o.dict = none ∧ o.data = .seq its n ∧ its.size ≤ sizeLine ∧ Vals xs its.toList
noncomputable def SqT (K : PySem.W.Frag) (H : Hp) (a : Addr) (xs : List V) : Prop :=
 Rd H a (.tup xs) ∨
  ∃ (o : Obj) (its : Array Value) (n : Nat), K.lookup a = some o ∧ o.cls = .type "tuple" ∧ o.data = .seq its n ∧ its.size ≤ sizeLine ∧ Vals xs its.toList
noncomputable def absV : Value → Option V
 | .none => some .non
 | .bool b => some (.bl b)
 | .int i _ => some (.int i)
 | .str x _ => some (.str x)
 | .bytes b _ => some (.byt b)
 | .float b _ => some (.flt b)
 | .ref a => some (.ref a)
 | .type n => some (.ty n)
 | _ => none
theorem RelV.abs {x : V} {u : Value} (r : RelV x u) : absV u = some x := by
 cases x with
 | non => cases r; rfl
 | bl _ => cases r; rfl
 | int _ => obtain ⟨t, rfl⟩ := r; rfl
 | str _ => obtain ⟨t, rfl⟩ := r; rfl
 | byt _ => obtain ⟨t, rfl⟩ := r; rfl
 | flt _ => obtain ⟨t, rfl⟩ := r; rfl
 | ref _ => cases r; rfl
 | ty _ => cases r; rfl
theorem RelV.inj {x y : V} {u : Value} (r : RelV x u) (q : RelV y u) : x = y := Option.some.inj (r.abs.symm.trans q.abs)
theorem Vals.inj : ∀ {xs ys : List V} {us : List Value}, Vals xs us → Vals ys us → xs = ys
 | _, _, _, .nil, .nil => rfl
 | _, _, _, .cons r t, .cons r' t' => by rw [r.inj r', Vals.inj t t']
section
variable {X : Cx} {pins : List (Addr × Obj)} {σ : St} {H : Hp} {s : Shared} {a : Addr} {xs ys : List V}
theorem SqL.of {K : PySem.W.Frag} (h : H a = some (.lst xs)) : SqL K H a xs := .inl (.inl h)
theorem SqT.of {K : PySem.W.Frag} (h : H a = some (.tup xs)) : SqT K H a xs := .inl (.inl h)
theorem Inv.list (I : Inv X pins σ H s) (h : SqL X.K H a xs) : ∃ its : List Value, Vals xs its ∧ PlainL s.heap a its.toArray ∧ xs.length ≤ sizeLine := by
 rcases h with h | ⟨o, its, n, hk, hc, hd, hs, hz, r⟩
 ·obtain ⟨z, its, n, r, e⟩ := h.ok I.hok
  exact ⟨its, r, ⟨_, n, e, rfl, rfl, rfl⟩, z⟩
 ·refine ⟨its.toList, r, ⟨o, n, I.kIn a o hk, hc, hd, by simpa using hs⟩, ?_⟩
  have e := r.length
  simp only [Array.length_toList] at e
  omega
theorem Inv.tuple (I : Inv X pins σ H s) (h : SqT X.K H a xs) : ∃ its : List Value, Vals xs its ∧ IsTup s.heap a its.toArray ∧ xs.length ≤ sizeLine := by
 rcases h with h | ⟨o, its, n, hk, hc, hs, hz, r⟩
 ·obtain ⟨z, its, r, p⟩ := h.ok I.hok
  exact ⟨its, r, p, z⟩
 ·refine ⟨its.toList, r, ⟨o, I.kIn a o hk, hc, n, by simpa using hs⟩, ?_⟩
  have e := r.length
  simp only [Array.length_toList] at e
  omega
theorem Inv.list_inj (I : Inv X pins σ H s) (h : SqL X.K H a xs) (h' : SqL X.K H a ys) : xs = ys := by
 obtain ⟨its, r, ⟨o, n, e, _, _, d⟩, _⟩ := I.list h
 obtain ⟨its', r', ⟨o', n', e', _, _, d'⟩, _⟩ := I.list h'
 rw [e] at e'; cases e'
 rw [d] at d'
 injection d' with d1 _
 have : its = its' := by simpa using congrArg Array.toList d1
 subst this
 exact r.inj r'
theorem Inv.tuple_inj (I : Inv X pins σ H s) (h : SqT X.K H a xs) (h' : SqT X.K H a ys) : xs = ys := by
 obtain ⟨its, r, ⟨o, e, _, n, d⟩, _⟩ := I.tuple h
 obtain ⟨its', r', ⟨o', e', _, n', d'⟩, _⟩ := I.tuple h'
 rw [e] at e'; cases e'
 rw [d] at d'
 injection d' with d1 _
 have : its = its' := by simpa using congrArg Array.toList d1
 subst this
 exact r.inj r'
end
noncomputable abbrev Cx.wish (X : Cx) (E : Value → Shared → Prop) : Cx := { X with xe := E }
noncomputable abbrev Cx.nox (X : Cx) : Cx := X.wish fun _ _ => False
theorem Cx.Ok.wish {X : Cx} (ok : X.Ok) (E : Value → Shared → Prop) : (X.wish E).Ok :=
 ⟨ok.mod, ok.kind, ok.glob, ok.blt, ok.above, ok.inj, ok.has, ok.cab, ok.hd, ok.frames, ok.stk, ok.exf, ok.bs, ok.bsz, ok.noex, ok.exfs, ok.funs, ok.frf⟩
theorem Cx.Ok.unwish {X : Cx} {E : Value → Shared → Prop} (ok : (X.wish E).Ok) : X.Ok :=
 ⟨ok.mod, ok.kind, ok.glob, ok.blt, ok.above, ok.inj, ok.has, ok.cab, ok.hd, ok.frames, ok.stk, ok.exf, ok.bs, ok.bsz, ok.noex, ok.exfs, ok.funs, ok.frf⟩
section
variable {X : Cx} {pins : List (Addr × Obj)} {σ : St} {H : Hp} {s : Shared} {E : Value → Shared → Prop}
theorem Inv.wish (I : Inv X pins σ H s) (E : Value → Shared → Prop) : Inv (X.wish E) pins σ H s := ⟨I.ok.wish E, I.os, I.bare, I.base, I.loc, I.cell, I.free, I.freeC, I.pin, I.hok, I.len⟩
theorem Inv.unwish (I : Inv (X.wish E) pins σ H s) : Inv X pins σ H s := ⟨I.ok.unwish, I.os, I.bare, I.base, I.loc, I.cell, I.free, I.freeC, I.pin, I.hok, I.len⟩
theorem SP.unwish {D : Ends} {f : Flow} {s' : Shared} (h : SP (X.wish E) pins D f s') : SP X pins D f s' := by
 cases f with
 | next => obtain ⟨σ', H', I, q⟩ := h; exact ⟨σ', H', I.unwish, q⟩
 | brk => obtain ⟨σ', H', I, q⟩ := h; exact ⟨σ', H', I.unwish, q⟩
 | cont => obtain ⟨σ', H', I, q⟩ := h; exact ⟨σ', H', I.unwish, q⟩
 | ret u => obtain ⟨v, σ', H', I, r, q⟩ := h; exact ⟨v, σ', H', I.unwish, r, q⟩
theorem PSs.nox {st : List Stmt} {t : TS} (h : PSs X.nox st t) : PSs X st t := fun pins s σ H D I hw =>
 wpAny_mono (h pins s σ H D (I.wish _) hw) (fun _ _ q => q.unwish) fun _ _ z => False.elim z
end
section
variable {X : Cx} {st : Stmt} {rest : List Stmt} {t u : TS} {e : Expr} {te : TE} {pos : Pos}
noncomputable def tNext : TS := fun D σ H => D.nx σ H
noncomputable def tSeq (t u : TS) : TS := fun D σ H => t { D with nx := u D } σ H
theorem pss_nil : PSs X [] tNext := fun _ _ σ H _ I h => wpAny_execs_nil ⟨σ, H, I, h⟩
theorem pss_cons (h1 : PS X st t) (h2 : PSs X rest u) : PSs X (st :: rest) (tSeq t u) := by
 intro pins s σ H D I h
 refine wpAny_execs_cons (thn (h1 pins s σ H { D with nx := u D } I h) fun f s1 q => ?_)
 cases f with
 | next =>
  obtain ⟨σ', H', I', q⟩ := q
  exact h2 pins s1 σ' H' D I' q
 | ret v => exact q
 | brk => exact q
 | cont => exact q
theorem pss_one (h1 : PS X st t) : PSs X [st] t := by
 intro pins s σ H D I h
 refine wpAny_execs_cons (thn (h1 pins s σ H D I h) fun f s1 q => ?_)
 cases f with
 | next => exact wpAny_execs_nil q
 | ret v => exact q
 | brk => exact q
 | cont => exact q
noncomputable def tBreak : TS := fun D σ H => D.bk σ H
noncomputable def tCont : TS := fun D σ H => D.ct σ H
theorem Inv.quiet {pins : List (Addr × Obj)} {σ : St} {H : Hp} {s : Shared} (I : Inv X pins σ H s) : interactive X.env = false := by simp [interactive, I.ok.kind]
noncomputable def tDrop (te : TE) : TS := fun D σ H => te σ H fun _ H1 => D.nx σ H1
theorem ps_expr (he : PE X e te) (hs : swapsWith e none pos.line X.env = pure false := by rfl) : PS X (.Expr e pos) (tDrop te) := by
 intro pins s σ H D I h
 exact wpAny_Expr_any (thn (he pins s σ H _ I h) fun v s1 ⟨x, H1, I1, r1, q1⟩ => ⟨σ, H1, I1, q1⟩) I.quiet hs
noncomputable def tRet (te : TE) : TS := fun D σ H => te σ H D.rt
theorem ps_ret (he : PE X e te) : PS X (.Return (some e) pos) (tRet te) := by
 intro pins s σ H D I h
 exact wpAny_Return_some (thn (he pins s σ H _ I h) fun v s1 ⟨x, H1, I1, r1, q1⟩ => ⟨x, σ, H1, I1, r1, q1⟩)
noncomputable def tRetN : TS := fun D _ H => D.rt .non H
theorem ps_retN : PS X (.Return none pos) tRetN := fun _ _ σ H _ I h => wpAny_Return_none ⟨.non, σ, H, I, rfl, h⟩
noncomputable def tIfS (c : TT) (t u : TS) : TS := fun D σ H => c σ H fun b H1 => if b = true then t D σ H1 else u D σ H1
theorem ps_if {c : Expr} {a b : List Stmt} {tc : TT} (hc : PT X c tc) (ha : PSs X a t) (hb : PSs X b u) : PS X (.If c a b pos) (tIfS tc t u) := by
 intro pins s σ H D I h
 refine wpAny_If (thn (hc pins s σ H _ I h) fun d s1 ⟨H1, I1, q1⟩ => ?_)
 cases d with
 | true => exact ha pins s1 σ H1 D I1 q1
 | false => exact hb pins s1 σ H1 D I1 q1
end
noncomputable abbrev TG := V → St → Hp → (St → Hp → Prop) → Prop
noncomputable abbrev TGs := List V → St → Hp → (St → Hp → Prop) → Prop
noncomputable def PG (X : Cx) (target : Expr) (t : TG) : Prop :=
 ∀ (pins : List (Addr × Obj)) (s : Shared) (σ : St) (H : Hp) (v : V) (u : Value) (Q : St → Hp → Prop), Inv X pins σ H s → RelV v u → t v σ H Q →
  wpAny (model X.prog X.w) X.A (assign target X.env u) (fun _ s' => ∃ σ' H', Inv X pins σ' H' s' ∧ Q σ' H') X.xe s
noncomputable def PGs (X : Cx) (ts : List Expr) (t : TGs) : Prop :=
 ∀ (pins : List (Addr × Obj)) (s : Shared) (σ : St) (H : Hp) (vs : List V) (us : List Value) (Q : St → Hp → Prop), Inv X pins σ H s → Vals vs us → t vs σ H Q →
  wpAny (model X.prog X.w) X.A (assignInOrder ((assignEach ts X.env).map (·.2)) us) (fun _ s' => ∃ σ' H', Inv X pins σ' H' s' ∧ Q σ' H') X.xe s
noncomputable abbrev TSet := V → V → V → Hp → (Hp → Prop) → Prop
noncomputable abbrev TIp := V → V → Hp → VK → Prop
section
variable {X : Cx} {pos : Pos}
noncomputable def gName (i : Nat) : TG := fun v σ H Q => Q (σ.set i (some v)) H
theorem pg_name {i : Nat} {x : Str} (hN : X.N.Nodup) (hi : X.N[i]? = some x) (hx : Loc X.env.scope x) (hf : X.fn x = true ∨ X.env.scope.names.lookup x = some .local := by first | exact .inl rfl | exact .inr rfl | assumption) : PG X (.Name x pos) (gName i) := by
 intro pins s σ H v u Q I r h
 exact wpAny_assign_Name (store_ok I hN hi hx r (fun s' I' => ⟨_, H, I', h⟩) hf)
noncomputable def gNil : TGs := fun vs σ H Q => vs = [] ∧ Q σ H
noncomputable def gCons (t : TG) (u : TGs) : TGs := fun vs σ H Q => ∃ v r, vs = v :: r ∧ t v σ H fun σ' H' => u r σ' H' Q
theorem pgs_nil : PGs X [] gNil := by
 intro pins s σ H vs us Q I r h
 obtain ⟨e, h⟩ := h
 subst e
 cases r
 exact assignInOrder_nil ⟨σ, H, I, h⟩
theorem pgs_cons {e : Expr} {es : List Expr} {t : TG} {u : TGs} (h1 : PG X e t) (h2 : PGs X es u)
  (hs : (assignEach (e :: es) X.env).map (·.2) = assign e X.env :: (assignEach es X.env).map (·.2) := by rfl) : PGs X (e :: es) (gCons t u) := by
 intro pins s σ H vs us Q I r h
 obtain ⟨v, vr, e1, h⟩ := h
 subst e1
 cases r with
 | cons r rr =>
  rw [hs]
  refine assignInOrder_cons (thn (h1 pins s σ H _ _ _ I r h) fun _ s1 ⟨σ1, H1, I1, q1⟩ => ?_)
  exact h2 pins s1 σ1 H1 _ _ Q I1 rr q1
noncomputable def gTup (K : PySem.W.Frag) (n : Nat) (t : TGs) : TG := fun v σ H Q => ∃ a xs, v = .ref a ∧ SqT K H a xs ∧ xs.length = n ∧ t xs σ H Q
theorem pg_tup {es : List Expr} {k : Nat} {t : TGs} {n : Nat} (hc : X.calm = true) (h : PGs X es t)
  (hn : (assignEach es X.env).length = n := by rfl) (hst : (assignEach es X.env).findIdx? (·.1) = none := by rfl) : PG X (.Tuple es k pos) (gTup X.K n t) := by
 intro pins s σ H v u Q I r hw
 obtain ⟨a, xs, e1, hq, hl, hw⟩ := hw
 subst e1
 cases r
 obtain ⟨its, rv, ht, hz⟩ := I.tuple hq
 refine assign_Tuple_tuple (I.ok.hd hc) ht (by simp [hn, ← hl, rv.length]) hst fun h' hx => ?_
 have I1 : Inv X pins σ H { s with heap := h' } := I.kept (t' := s.toks) fun b o e => hx b o (Nat.ne_of_lt (Heap.lt_size e)) e
 exact h pins _ σ H xs _ Q I1 (by simpa using rv) hw
noncomputable def gSub (to ti : TE) (t : TSet) : TG := fun v σ H Q => to σ H fun o H1 => ti σ H1 fun i H2 => t o i v H2 fun H3 => Q σ H3
noncomputable def tAsg (te : TE) (g : TG) : TS := fun D σ H => te σ H fun x H1 => g x σ H1 D.nx
theorem ps_asg {tg e : Expr} {te : TE} {g : TG} (he : PE X e te) (hg : PG X tg g) (hs : swapsWithSole [tg] e pos.line X.env = pure false := by rfl) (hw : swappedStores [tg] e X.env = pure none := by rfl)
  (h1 : (assignEach [tg] X.env).map (·.2) = [assign tg X.env] := by rfl) : PS X (.Assign [tg] e pos) (tAsg te g) := by
 intro pins s σ H D I h
 refine wpAny_Assign_stores (thn (he pins s σ H _ I h) fun v s1 ⟨x, H1, I1, r1, q1⟩ => ?_) hs hw
 rw [h1]
 exact thn (hg pins s1 σ H1 x v _ I1 r1 q1) fun _ s2 q => q
theorem ps_set {i : Nat} {x : Str} {e : Expr} {te : TE} {pos' : Pos} (hN : X.N.Nodup) (hi : X.N[i]? = some x) (hx : Loc X.env.scope x) (he : PE X e te) (hs : swapsWith e (some (.Name x pos')) pos.line X.env = pure false := by rfl) (hf : X.fn x = true ∨ X.env.scope.names.lookup x = some .local := by first | exact .inl rfl | exact .inr rfl | assumption) :
  PS X (.Assign [.Name x pos'] e pos) (tAsg te (gName i)) := by
 intro pins s σ H D I h
 refine wpAny_Assign_Name (thn (he pins s σ H _ I h) fun v s1 ⟨y, H1, I1, r1, q1⟩ => ?_) hs
 exact store_ok I1 hN hi hx r1 (fun s2 I2 => ⟨_, H1, I2, q1⟩) hf
noncomputable def tAug (i : Nat) (te : TE) (ti : TIp) : TS := fun D σ H => ∃ x, σ[i]? = some (some x) ∧ te σ H fun y H1 => ti x y H1 fun z H2 => D.nx (σ.set i (some z)) H2
end
section
variable {X : Cx} {pos : Pos}
noncomputable def tWhile (c : TT) (tb : TS) : TS := fun D σ H => ∃ W : Nat → St → Hp → Prop, (∃ m, W m σ H) ∧ ∀ m σ H, W m σ H →
 c σ H fun b H1 => if b = true then ∃ N : St → Hp → Prop, (∀ σ' H', N σ' H' → ∃ m', m' < m ∧ W m' σ' H') ∧ tb { D with nx := N, ct := N, bk := D.nx } σ H1 else D.nx σ H1
theorem ps_while {c : Expr} {body : List Stmt} {tc : TT} {tb : TS} (hp : PassesOwn (model X.prog X.w) X.A X.env X.xe) (hc : PT X c tc) (hb : PSs X body tb) : PS X (.While c body [] pos) (tWhile tc tb) := by
 intro pins s σ H D I h
 obtain ⟨W, ⟨m0, w0⟩, turn⟩ := h
 refine wpAny_While (codeAny_whileLoop (fun n s' => ∃ σ' H', Inv X pins σ' H' s' ∧ W n σ' H') ?_ m0 ⟨σ, H, I, w0⟩)
 rintro n s1 ⟨σ1, H1, I1, w1⟩
 refine wpAny_passesOwn hp (thn (hc pins s1 σ1 H1 _ I1 (turn n σ1 H1 w1)) fun b s2 ⟨H2, I2, q2⟩ => ?_)
 cases b with
 | true =>
  obtain ⟨N, hN, q2⟩ := q2
  rw [if_pos rfl]
  refine wpAny_passesOwn hp (thn (hb pins s2 σ1 H2 _ I2 q2) fun f s3 q3 => ?_)
  cases f with
  | next =>
   obtain ⟨σ3, H3, I3, n3⟩ := q3
   obtain ⟨m', hm, w3⟩ := hN σ3 H3 n3
   exact ⟨m', hm, σ3, H3, I3, w3⟩
  | cont =>
   obtain ⟨σ3, H3, I3, n3⟩ := q3
   obtain ⟨m', hm, w3⟩ := hN σ3 H3 n3
   exact ⟨m', hm, σ3, H3, I3, w3⟩
  | brk => exact q3
  | ret v => exact q3
 | false =>
  rw [if_neg Bool.false_ne_true]
  exact wpAny_execs_nil ⟨σ1, H2, I2, q2⟩
end
structure It where
 go : Nat → Hp → Prop
 yld : Nat → Hp → V → Hp → Prop
 stop : Nat → Hp → Prop
noncomputable def FpOk (X : Cx) (pins : List (Addr × Obj)) (H : Hp) (b : Addr) : Prop :=
 H b = none ∧ b ≠ X.env.locals ∧ b ∉ X.fs ∧ (b ∈ X.ex ∨ X.s₀.heap.objs.size ≤ b) ∧ (∀ x c, X.env.cells.lookup x = some c → c ≠ b) ∧ ∀ p ∈ X.pn ++ pins, p.1 ≠ b
theorem Inv.fpOk {X : Cx} {pins : List (Addr × Obj)} {σ : St} {H H' : Hp} {s : Shared} {b : Addr} (I : Inv X pins σ H s) (hb : s.heap.objs.size ≤ b) (hn : H' b = none) : FpOk X pins H' b := by
 refine ⟨hn, Nat.ne_of_gt (Nat.lt_of_lt_of_le I.lt hb), I.nofs hb, .inr (Nat.le_trans I.sz hb), fun x c e z => ?_, fun p hp z => ?_⟩
 ·obtain ⟨v, q⟩ := I.cell x c e
  exact absurd (Nat.lt_of_lt_of_le q.lt (by rw [z]; exact hb)) (Nat.lt_irrefl _)
 ·exact absurd (Nat.lt_of_lt_of_le (Heap.lt_size (I.pin p hp).1) (by rw [z]; exact hb)) (Nat.lt_irrefl _)
structure Turn (P : Program) (w : World) (K : PySem.W.Frag) (tg : Expr) (J : It) (fp : List Addr) (it : Addr) (tn : Nat → Heap → Prop) : Prop where
 mem : it ∈ fp
 obj : ∀ i h, tn i h → ∀ b ∈ fp, ∃ o, h.get? b = some o ∧ ∀ v, o.data ≠ .cell v
 keep : ∀ i h h', tn i h → (∀ b ∈ fp, ∀ o, h.get? b = some o → h'.get? b = some o) → tn i h'
 item : ∀ (X : Cx), X.prog = P → X.w = w → X.K = K → X.calm = true → ∀ (i : Nat) (pins : List (Addr × Obj)) (s : Shared) (σ : St) (H : Hp) (E : Value → Shared → Prop), Inv X pins σ H s → (∀ b ∈ fp, FpOk X pins H b) → tn i s.heap → J.go i H →
  wpAny (model P w) X.A (pyNext (.ref it)) (fun r s1 => ∃ u, r = some u ∧
   wpAny (model P w) X.A (letOwnedTupleGo tg (.ref it) u) (fun _ s2 => ∃ x H', Inv X pins σ H' s2 ∧ RelV x u ∧ J.yld i H x H' ∧ tn (i + 1) s2.heap ∧ ∀ b ∈ fp, H' b = none) E s1) E s
 done : ∀ (X : Cx), X.prog = P → X.w = w → X.K = K → X.calm = true → ∀ (i : Nat) (pins : List (Addr × Obj)) (s : Shared) (σ : St) (H : Hp) (E : Value → Shared → Prop), Inv X pins σ H s → (∀ b ∈ fp, FpOk X pins H b) → tn i s.heap → J.stop i H →
  wpAny (model P w) X.A (pyNext (.ref it)) (fun r s1 => r = none ∧ Inv X pins σ H s1) E s
 self : ∀ (A : Around) (i : Nat) (s : Shared) (Q : Value → Shared → Prop) (E : Value → Shared → Prop), tn i s.heap → Q (.ref it) s → wpAny (model P w) A (pyIter (.ref it)) Q E s
noncomputable abbrev TI := St → Hp → (It → Hp → Prop) → Prop
noncomputable def PIE (X : Cx) (pins : List (Addr × Obj)) (σ : St) (tg : Expr) (R : It → Hp → Prop) (itv : Value) (s2 : Shared) : Prop :=
 ∃ (it : Addr) (fp : List Addr) (tn : Nat → Heap → Prop) (J : It) (H' : Hp), itv = .ref it ∧ Inv X pins σ H' s2 ∧ Turn X.prog X.w X.K tg J fp it tn ∧ tn 0 s2.heap ∧ (∀ b ∈ fp, FpOk X pins H' b) ∧ R J H'
noncomputable def PI (X : Cx) (tg iter : Expr) (wi : TI) : Prop :=
 ∀ (pins : List (Addr × Obj)) (s : Shared) (σ : St) (H : Hp) (R : It → Hp → Prop), Inv X pins σ H s → wi σ H R →
  wpAny (model X.prog X.w) X.A (eval iter X.env) (fun v s1 => wpAny (model X.prog X.w) X.A (pyIter v) (PIE X pins σ tg R) X.xe s1) X.xe s
theorem go_of {M : Model} {A : Around} {E : Value → Shared → Prop} {s : Shared} {tg : Expr} {it : Addr} {u : Value} {o : Obj} {n : String} {vs : Array Value} {Q : Unit → Shared → Prop} (ho : s.heap.get? it = some o) (hc : o.cls = .type n) (hd : o.data = .fields vs)
    (hn : ["enumerate", "zip", "dict_itemiterator", "dict_reverseitemiterator", "odict_iterator", "itertools.zip_longest", "itertools.pairwise"].contains n = false) (hQ : Q () s) : wpAny M A (letOwnedTupleGo tg (.ref it) u) Q E s := by
  unfold letOwnedTupleGo
  cases tg <;> first
    | exact wpAny_pure hQ
    | (cases u <;> first
        | exact wpAny_pure hQ
        | (refine wpAny_bind (wpAny_load ho ?_)
           rw [hc, hd]
           show wpAny M A (if (["enumerate", "zip", "dict_itemiterator", "dict_reverseitemiterator", "odict_iterator", "itertools.zip_longest", "itertools.pairwise"].contains n && vs[0]? == some (rawInt _)) = true then _ else _) Q E s
           rw [if_neg (by intro h; rw [hn, Bool.false_and] at h; cases h)]
           exact wpAny_pure hQ))
noncomputable def Itl (K : PySem.W.Frag) (a : Addr) : It :=
 ⟨fun i H => ∃ xs x, SqL K H a xs ∧ xs[i]? = some x, fun i H x H' => H' = H ∧ ∀ xs, SqL K H a xs → xs[i]? = some x, fun i H => ∃ xs, SqL K H a xs ∧ xs.length ≤ i⟩
noncomputable def Itt (K : PySem.W.Frag) (a : Addr) : It :=
 ⟨fun i H => ∃ xs x, SqT K H a xs ∧ xs[i]? = some x, fun i H x H' => H' = H ∧ ∀ xs, SqT K H a xs → xs[i]? = some x, fun i H => ∃ xs, SqT K H a xs ∧ xs.length ≤ i⟩
noncomputable def Itr (lo : Int) (n : Nat) : It := ⟨fun i _ => i < n, fun i H x H' => H' = H ∧ x = .int (lo + i), fun i _ => n ≤ i⟩
theorem turn_list {P : Program} {w : World} {K : PySem.W.Frag} {tg : Expr} (a it : Addr) : Turn P w K tg (Itl K a) [it] it (fun i h => h.IsListIter it a i) where
 mem := by simp
 obj := fun i h st b hb => by
  have e : b = it := by simpa using hb
  subst e
  obtain ⟨o, e, c, d⟩ := st
  exact ⟨o, e, fun v z => by rw [d] at z; cases z⟩
 keep := fun i h h' st k => st.at fun o e => k it (by simp) o e
 item := by
  intro X hP hw hK hc i pins s σ H E I hf st hg
  subst hP hw hK
  obtain ⟨xs, x, hq, hx⟩ := hg
  obtain ⟨its, rv, p, hz⟩ := I.list hq
  obtain ⟨u, hu, ru⟩ := rv.get hx
  obtain ⟨f0, f1, f2, f3, f4, f5⟩ := hf it (by simp)
  refine wpAny_pyNext_list_item st p.isList (x := u) (by simpa using hu) fun h' st' sb => ?_
  have I1 : Inv X pins σ H { s with heap := h' } := I.turned (t' := s.toks) (fun b o hb e => (sb.2 b hb).trans e) f0 f1 f3 f4 f5
  obtain ⟨o, e, c, d⟩ := id st'
  exact ⟨u, rfl, go_of (s := { s with heap := h' }) e c d (by decide) ⟨x, H, I1, ru, ⟨rfl, fun ys hy => by rw [I.list_inj hy hq]; exact hx⟩, st', fun b hb => (hf b hb).1⟩⟩
 done := by
  intro X hP hw hK hc i pins s σ H E I hf st hg
  subst hP hw hK
  obtain ⟨xs, hq, hx⟩ := hg
  obtain ⟨its, rv, p, hz⟩ := I.list hq
  obtain ⟨f0, f1, f2, f3, f4, f5⟩ := hf it (by simp)
  have hl := rv.length
  exact wpAny_pyNext_list_end (I.ok.hd hc) st p.isList (by simp; omega) fun h' eb => ⟨rfl, I.turned (t' := s.toks) (fun b o hb e => eb b o hb e) f0 f1 f3 f4 f5⟩
 self := fun _ _ _ _ _ st h => wpAny_pyIter_listiter st h
theorem turn_tuple {P : Program} {w : World} {K : PySem.W.Frag} {tg : Expr} (a it : Addr) : Turn P w K tg (Itt K a) [it] it (fun i h => h.IsTupleIter it a i) where
 mem := by simp
 obj := fun i h st b hb => by
  have e : b = it := by simpa using hb
  subst e
  obtain ⟨o, e, c, d⟩ := st
  exact ⟨o, e, fun v z => by rw [d] at z; cases z⟩
 keep := fun i h h' st k => st.at fun o e => k it (by simp) o e
 item := by
  intro X hP hw hK hc i pins s σ H E I hf st hg
  subst hP hw hK
  obtain ⟨xs, x, hq, hx⟩ := hg
  obtain ⟨its, rv, p, hz⟩ := I.tuple hq
  obtain ⟨u, hu, ru⟩ := rv.get hx
  obtain ⟨f0, f1, f2, f3, f4, f5⟩ := hf it (by simp)
  refine wpAny_pyNext_tuple_item st (show s.heap.IsTuple a its.toArray from p) (x := u) (by simpa using hu) fun h' st' sb => ?_
  have I1 : Inv X pins σ H { s with heap := h' } := I.turned (t' := s.toks) (fun b o hb e => (sb.2 b hb).trans e) f0 f1 f3 f4 f5
  obtain ⟨o, e, c, d⟩ := id st'
  exact ⟨u, rfl, go_of (s := { s with heap := h' }) e c d (by decide) ⟨x, H, I1, ru, ⟨rfl, fun ys hy => by rw [I.tuple_inj hy hq]; exact hx⟩, st', fun b hb => (hf b hb).1⟩⟩
 done := by
  intro X hP hw hK hc i pins s σ H E I hf st hg
  subst hP hw hK
  obtain ⟨xs, hq, hx⟩ := hg
  obtain ⟨its, rv, p, hz⟩ := I.tuple hq
  obtain ⟨f0, f1, f2, f3, f4, f5⟩ := hf it (by simp)
  have hl := rv.length
  exact wpAny_pyNext_tuple_end (I.ok.hd hc) st (show s.heap.IsTuple a its.toArray from p) (by simp; omega) fun h' eb => ⟨rfl, I.turned (t' := s.toks) (fun b o hb e => eb b o hb e) f0 f1 f3 f4 f5⟩
 self := fun _ _ _ _ _ st h => wpAny_pyIter_tupleiter st h
theorem turn_range {P : Program} {w : World} {K : PySem.W.Frag} {tg : Expr} (it : Addr) (lo : Int) (n : Nat) : Turn P w K tg (Itr lo n) [it] it (fun i h => IsRangeIter h it (lo + (i : Nat) * 1) ((n : Int) - (i : Nat)) 1) where
 mem := by simp
 obj := fun i h st b hb => by
  have e : b = it := by simpa using hb
  subst e
  exact ⟨_, st, fun v z => by
   have z' : Data.fields _ = Data.cell v := z
   cases z'⟩
 keep := fun i h h' st k => k it (by simp) _ st
 item := by
  intro X hP hw hK hc i pins s σ H E I hf st hg
  subst hP hw hK
  obtain ⟨f0, f1, f2, f3, f4, f5⟩ := hf it (by simp)
  have W := Walks.range (prog := X.prog) (w := X.w) (I.ok.hd hc) it lo 1 n
  refine W.item i s _ _ hg st fun v h' tk hv st' kk => ?_
  obtain ⟨t, rfl⟩ := hv
  have I1 : Inv X pins σ H { s with heap := h', toks := tk } := I.turned (fun b o hb e => kk b o (by simpa using hb) e) f0 f1 f3 f4 f5
  refine ⟨_, rfl, go_of (s := { s with heap := h', toks := tk }) (n := "range_iterator") st' rfl rfl (by decide) ⟨.int (lo + i), H, I1, ⟨t, ?_⟩, ⟨rfl, rfl⟩, st', fun b hb => (hf b hb).1⟩⟩
  rw [Int.mul_one]
 done := by
  intro X hP hw hK hc i pins s σ H E I hf st hg
  subst hP hw hK
  obtain ⟨f0, f1, f2, f3, f4, f5⟩ := hf it (by simp)
  exact wpAny_pyNext_range_end (I.ok.hd hc) st (by have : n ≤ i := hg; omega) fun h' eb => ⟨rfl, I.turned (t' := s.toks) (fun b o hb e => eb b o hb e) f0 f1 f3 f4 f5⟩
 self := fun _ _ _ _ _ st h => wpAny_pyIter_rangeiter st h
end L2
namespace L2
open PySem PySem.Spec PyProof.Rows
section
variable {X : Cx} {tg : Expr}
theorem range_it {pins : List (Addr × Obj)} {σ : St} {H : Hp} {s : Shared} {R : It → Hp → Prop} {E : Value → Shared → Prop} {lo hi : Int} {t u v : Tok} {tk : Nat} (I : Inv X pins σ H s) (h1 : -(2 ^ 62) ≤ lo) (h2 : lo < 2 ^ 62) (h3 : -(2 ^ 62) ≤ hi) (h4 : hi < 2 ^ 62)
  (q : R (Itr lo (hi - lo).toNat) H) : wpAny (model X.prog X.w) X.A (pyIter (.ref s.heap.objs.size)) (PIE X pins σ tg R) E { s with heap := s.heap.push { cls := .type "range", data := .fields #[.int lo t, .int hi u, .int 1 v] }, toks := tk } := by
 refine wpAny_pyIter_range (IsRange.new ..) (small_one h1 h2 h3 h4) ?_
 have I1 : Inv X pins σ H { s with heap := s.heap.push { cls := .type "range", data := .fields #[.int lo t, .int hi u, .int 1 v] }, toks := tk } := I.kept fun b o e => Heap.get?_push_of_some _ e
 refine ⟨(s.heap.push { cls := .type "range", data := .fields #[.int lo t, .int hi u, .int 1 v] }).objs.size, [(s.heap.push { cls := .type "range", data := .fields #[.int lo t, .int hi u, .int 1 v] }).objs.size], _, _, H, rfl,
  I1.kept (t' := tk) fun b o e => Heap.get?_push_of_some _ e, turn_range _ lo (hi - lo).toNat, ?_, fun b hb => ?_, q⟩
 ·have e1 : lo + ((0 : Nat) : Int) * 1 = lo := by simp
  have e2 : (((hi - lo).toNat : Nat) : Int) - ((0 : Nat) : Int) = Builtin.Range.rangeSize lo hi 1 := by rw [rangeSize_one]; split <;> omega
  show IsRangeIter _ _ (lo + ((0 : Nat) : Int) * 1) ((((hi - lo).toNat : Nat) : Int) - ((0 : Nat) : Int)) 1
  rw [e1, e2]
  exact Heap.get?_push_size _ rfl
 ·have e : b = (s.heap.push { cls := .type "range", data := .fields #[.int lo t, .int hi u, .int 1 v] }).objs.size := by simpa using hb
  subst e
  exact I1.fpOk (Nat.le_refl _) (I1.hok.fresh (Nat.le_refl _))
noncomputable def tFor (wi : TI) (g : TG) (tb : TS) : TS := fun D σ H => wi σ H fun J H1 => ∃ W : Nat → Nat → St → Hp → Prop, (∃ m, W 0 m σ H1) ∧ ∀ i m σ H, W i m σ H →
 (J.stop i H ∧ D.nx σ H) ∨ (J.go i H ∧ ∃ N : St → Hp → Prop, (∀ σ' H', N σ' H' → ∃ m', m' < m ∧ W (i + 1) m' σ' H') ∧ ∀ x H', J.yld i H x H' → g x σ H' fun σ2 H2 => tb { D with nx := N, ct := N, bk := D.nx } σ2 H2)
noncomputable def pinsAt (fp : List Addr) (h : Heap) : List (Addr × Obj) := fp.filterMap fun b => (h.get? b).map fun o => (b, o)
theorem mem_pinsAt {fp : List Addr} {h : Heap} {b : Addr} {o : Obj} (hb : b ∈ fp) (e : h.get? b = some o) : (b, o) ∈ pinsAt fp h := List.mem_filterMap.mpr ⟨b, hb, by rw [e]; rfl⟩
theorem of_pinsAt {fp : List Addr} {h : Heap} {p : Addr × Obj} (hp : p ∈ pinsAt fp h) : p.1 ∈ fp ∧ h.get? p.1 = some p.2 := by
 obtain ⟨b, hb, e⟩ := List.mem_filterMap.mp hp
 cases q : h.get? b with
 | none => rw [q] at e; cases e
 | some o =>
  rw [q] at e
  have e' : (b, o) = p := Option.some.inj e
  subst e'
  exact ⟨hb, q⟩
theorem Inv.pinned {pins : List (Addr × Obj)} {σ : St} {H : Hp} {s : Shared} {fp : List Addr} (I : Inv X pins σ H s) (hf : ∀ b ∈ fp, FpOk X pins H b) (ho : ∀ b ∈ fp, ∃ o, s.heap.get? b = some o ∧ ∀ v, o.data ≠ .cell v) : Inv X (pins ++ pinsAt fp s.heap) σ H s :=
 I.pins_of fun p hp => (List.mem_append.mp hp).elim (fun z => I.pin p (List.mem_append_right _ z)) fun z => by
  obtain ⟨hb, e⟩ := of_pinsAt z
  obtain ⟨f0, f1, f2, _⟩ := hf p.1 hb
  obtain ⟨o, e', d⟩ := ho p.1 hb
  rw [e] at e'; cases e'
  exact ⟨e, f0, f1, f2, d⟩
theorem Inv.unpinned {pins pl : List (Addr × Obj)} {σ : St} {H : Hp} {s : Shared} (I : Inv X (pins ++ pl) σ H s) : Inv X pins σ H s := I.pins_of fun p hp => I.pin p (List.mem_append_right _ (List.mem_append_left _ hp))
theorem ps_for {iter : Expr} {body : List Stmt} {wi : TI} {g : TG} {tb : TS} {pos : Pos} (hp : PassesOwn (model X.prog X.w) X.A X.env X.xe) (hc : X.calm = true) (hi : PI X tg iter wi) (hg : PG X tg g) (hb : PSs X body tb)
  (hs : ∀ x, foldedSetIterable iter X.env x = pure x := by intro _; rfl) : PS X (.For tg iter body [] pos) (tFor wi g tb) := by
 intro pins s σ H D I h
 refine wpAny_For (thn (hi pins s σ H _ I h) fun v s1 h1 => thn h1 fun itv s2 h2 => ?_) hs
 obtain ⟨it, fp, tn, J, H2, e, I2, T, st2, f2, W, ⟨m0, w0⟩, turn⟩ := h2
 subst e
 -- what stays true of the iterator's objects through the loop
 have stat : ∀ {H' : Hp}, (∀ b ∈ fp, H' b = none) → ∀ b ∈ fp, FpOk X pins H' b := fun hn b hb => ⟨hn b hb, (f2 b hb).2⟩
 refine codeAny_forLoop_any (fun n s' => ∃ i σ' H', Inv X pins σ' H' s' ∧ tn i s'.heap ∧ (∀ b ∈ fp, H' b = none) ∧ W i n σ' H') ?_ m0 ⟨0, σ, H2, I2, st2, fun b hb => (f2 b hb).1, w0⟩
 rintro n s3 ⟨i, σ3, H3, I3, st3, fr3, w3⟩
 rcases turn i n σ3 H3 w3 with ⟨stop, qn⟩ | ⟨go, N, hN, step⟩
 ·refine wpAny_passesOwn hp (thn (T.done X rfl rfl rfl hc i pins s3 σ3 H3 X.xe I3 (stat fr3) st3 stop) fun r s4 ⟨hr, I4⟩ => ?_)
  subst hr
  exact wpAny_execs_nil ⟨σ3, H3, I4, qn⟩
 ·refine wpAny_passesOwn hp (thn (T.item X rfl rfl rfl hc i pins s3 σ3 H3 X.xe I3 (stat fr3) st3 go) fun r s4 ⟨u, hr, h4⟩ => ?_)
  subst hr
  refine wpAny_passesOwn hp (thn h4 fun _ s5 ⟨x, H5, I5, r5, y5, st5, fr5⟩ => ?_)
  have I5' := I5.pinned (stat fr5) (T.obj _ _ st5)
  refine wpAny_passesOwn hp (thn (hg _ s5 σ3 H5 x u _ I5' r5 (step x H5 y5)) fun _ s6 ⟨σ6, H6, I6, q6⟩ => ?_)
  refine wpAny_passesOwn hp (thn (hb _ s6 σ6 H6 _ I6 q6) fun f s7 q7 => ?_)
  have again : ∀ {σ7 : St} {H7 : Hp}, Inv X (pins ++ pinsAt fp s5.heap) σ7 H7 s7 → N σ7 H7 → ∃ m, m < n ∧ ∃ i σ' H', Inv X pins σ' H' s7 ∧ tn i s7.heap ∧ (∀ b ∈ fp, H' b = none) ∧ W i m σ' H' := fun {σ7 H7} I7 n7 => by
   obtain ⟨m', hm, w7⟩ := hN σ7 H7 n7
   refine ⟨m', hm, i + 1, σ7, H7, I7.unpinned, T.keep _ _ _ st5 fun b hb o e => (I7.pin (b, o) (List.mem_append_right _ (List.mem_append_right _ (mem_pinsAt hb e)))).1, fun b hb => ?_, w7⟩
   obtain ⟨o, e, d⟩ := T.obj _ _ st5 b hb
   exact (I7.pin (b, o) (List.mem_append_right _ (List.mem_append_right _ (mem_pinsAt hb e)))).2.1
  cases f with
  | next => obtain ⟨σ7, H7, I7, n7⟩ := q7; exact again I7 n7
  | cont => obtain ⟨σ7, H7, I7, n7⟩ := q7; exact again I7 n7
  | brk => obtain ⟨σ7, H7, I7, q7⟩ := q7; exact ⟨σ7, H7, I7.unpinned, q7⟩
  | ret v => obtain ⟨x7, σ7, H7, I7, r7, q7⟩ := q7; exact ⟨x7, σ7, H7, I7.unpinned, r7, q7⟩
end
theorem for_list {K : PySem.W.Frag} {a : Addr} {xs : List V} {g : TG} {tb : TS} {D : Ends} {σ : St} {H : Hp} (Pv : Nat → St → Hp → Prop) (h0 : Pv 0 σ H) (hl : ∀ i σ H, i ≤ xs.length → Pv i σ H → SqL K H a xs)
  (hs : ∀ i x σ H, xs[i]? = some x → Pv i σ H → g x σ H fun σ2 H2 => tb { D with nx := Pv (i + 1), ct := Pv (i + 1), bk := D.nx } σ2 H2) (hd : ∀ σ H, Pv xs.length σ H → D.nx σ H) :
  ∃ W : Nat → Nat → St → Hp → Prop, (∃ m, W 0 m σ H) ∧ ∀ i m σ H, W i m σ H →
   ((Itl K a).stop i H ∧ D.nx σ H) ∨ ((Itl K a).go i H ∧ ∃ N : St → Hp → Prop, (∀ σ' H', N σ' H' → ∃ m', m' < m ∧ W (i + 1) m' σ' H') ∧ ∀ x H', (Itl K a).yld i H x H' → g x σ H' fun σ2 H2 => tb { D with nx := N, ct := N, bk := D.nx } σ2 H2) := by
 refine ⟨fun i m σ H => m = xs.length - i ∧ i ≤ xs.length ∧ Pv i σ H, ⟨xs.length, by simp, Nat.zero_le _, h0⟩, ?_⟩
 rintro i m σ H ⟨rfl, hi, p⟩
 have q := hl i σ H hi p
 by_cases hlt : i < xs.length
 ·refine .inr ⟨⟨xs, xs[i], q, by simp [hlt]⟩, Pv (i + 1), fun σ' H' p' => ⟨xs.length - (i + 1), by omega, rfl, hlt, p'⟩, fun x H' y => ?_⟩
  obtain ⟨e, y⟩ := y
  subst e
  exact hs i x σ _ (y xs q) p
 ·have e : i = xs.length := by omega
  subst e
  exact .inl ⟨⟨xs, q, Nat.le_refl _⟩, hd σ H p⟩
theorem for_range {lo : Int} {n : Nat} {g : TG} {tb : TS} {D : Ends} {σ : St} {H : Hp} (Pv : Nat → St → Hp → Prop) (h0 : Pv 0 σ H)
  (hs : ∀ i σ H, i < n → Pv i σ H → g (.int (lo + i)) σ H fun σ2 H2 => tb { D with nx := Pv (i + 1), ct := Pv (i + 1), bk := D.nx } σ2 H2) (hd : ∀ σ H, Pv n σ H → D.nx σ H) :
  ∃ W : Nat → Nat → St → Hp → Prop, (∃ m, W 0 m σ H) ∧ ∀ i m σ H, W i m σ H →
   ((Itr lo n).stop i H ∧ D.nx σ H) ∨ ((Itr lo n).go i H ∧ ∃ N : St → Hp → Prop, (∀ σ' H', N σ' H' → ∃ m', m' < m ∧ W (i + 1) m' σ' H') ∧ ∀ x H', (Itr lo n).yld i H x H' → g x σ H' fun σ2 H2 => tb { D with nx := N, ct := N, bk := D.nx } σ2 H2) := by
 refine ⟨fun i m σ H => m = n - i ∧ i ≤ n ∧ Pv i σ H, ⟨n, by simp, Nat.zero_le _, h0⟩, ?_⟩
 rintro i m σ H ⟨rfl, hi, p⟩
 by_cases hlt : i < n
 ·refine .inr ⟨hlt, Pv (i + 1), fun σ' H' p' => ⟨n - (i + 1), by omega, rfl, hlt, p'⟩, fun x H' y => ?_⟩
  obtain ⟨e, y⟩ := y
  subst e y
  exact hs i σ _ hlt p
 ·have e : i = n := by omega
  subst e
  exact .inl ⟨Nat.le_refl _, hd σ H p⟩
end L2
namespace L2
open PySem PySem.Spec PyProof.Rows
noncomputable abbrev R2 := V → V → Hp → VK → Prop
noncomputable def OpR (X : Cx) (f : Value → Value → Sem Value) (r : R2) : Prop :=
 ∀ (pins : List (Addr × Obj)) (s : Shared) (σ : St) (H : Hp) (x y : V) (v u : Value) (Q : VK), Inv X pins σ H s → RelV x v → RelV y u → r x y H Q →
  wpAny (model X.prog X.w) X.A (f v u) (EP X pins σ Q) X.xe s
noncomputable def UnR (X : Cx) (f : Value → Sem Value) (r : V → Hp → VK → Prop) : Prop :=
 ∀ (pins : List (Addr × Obj)) (s : Shared) (σ : St) (H : Hp) (x : V) (v : Value) (Q : VK), Inv X pins σ H s → RelV x v → r x H Q →
  wpAny (model X.prog X.w) X.A (f v) (EP X pins σ Q) X.xe s
noncomputable def CallR (X : Cx) (f : Value) (r : List V → Hp → VK → Prop) : Prop :=
 ∀ (pins : List (Addr × Obj)) (s : Shared) (σ : St) (H : Hp) (xs : List V) (us : List Value) (Q : VK), Inv X pins σ H s → Vals xs us → r xs H Q →
  wpAny (model X.prog X.w) X.A (call f us) (EP X pins σ Q) X.xe s
noncomputable def tOp (r : R2) (ta tb : TE) : TE := fun σ H Q => ta σ H fun x H1 => tb σ H1 fun y H2 => r x y H2 Q
noncomputable def tUn (r : V → Hp → VK → Prop) (ta : TE) : TE := fun σ H Q => ta σ H fun x H1 => r x H1 Q
noncomputable def rI (C : Int → Int → Prop) (g : Int → Int → V) : R2 := fun x y H Q => ∃ i j, x = .int i ∧ y = .int j ∧ C i j ∧ Q (g i j) H
noncomputable def rI0 (g : Int → Int → V) : R2 := fun x y H Q => ∃ i j, x = .int i ∧ y = .int j ∧ Q (g i j) H
noncomputable def rU (g : Int → V) : V → Hp → VK → Prop := fun x H Q => ∃ i, x = .int i ∧ Q (g i) H
section
variable {X : Cx} {a b c : Expr} {ta tb tc : TE} {pos : Pos}
theorem binT (ha : PE X a ta) (hb : PE X b tb) {pins : List (Addr × Obj)} {s : Shared} {σ : St} {H : Hp} {R : V → V → Hp → Prop} (I : Inv X pins σ H s)
  (h : ta σ H fun x H1 => tb σ H1 fun y H2 => R x y H2) {Q : Value → Shared → Prop} {f : Value → Value → Sem Value}
  (hf : ∀ v u s2 x y H2, Inv X pins σ H2 s2 → RelV x v → RelV y u → R x y H2 → wpAny (model X.prog X.w) X.A (f v u) Q X.xe s2) :
  wpAny (model X.prog X.w) X.A (eval a X.env) (fun v s₁ => wpAny (model X.prog X.w) X.A (eval b X.env) (fun u s₂ => wpAny (model X.prog X.w) X.A (f v u) Q X.xe s₂) X.xe s₁) X.xe s := by
 refine thn (ha pins s σ H _ I h) fun v s1 ⟨x, H1, I1, r1, q1⟩ => ?_
 refine thn (hb pins s1 σ H1 _ I1 q1) fun u s2 ⟨y, H2, I2, r2, q2⟩ => ?_
 exact hf v u s2 x y H2 I2 r1 r2 q2
theorem pe_op {op : Operator} {r : R2} (ho : OpR X (binaryOp op) r) (ha : PE X a ta) (hb : PE X b tb) : PE X (.BinOp a op b pos) (tOp r ta tb) := by
 intro pins s σ H Q I h
 exact wpAny_BinOp (binT ha hb I h fun v u s2 x y H2 I2 rx ry q => ho pins s2 σ H2 x y v u Q I2 rx ry q)
theorem pe_un {op : UnaryOp} {r : V → Hp → VK → Prop} (ho : UnR X (unaryOp op) r) (ha : PE X a ta) : PE X (.UnaryOp op a pos) (tUn r ta) := by
 intro pins s σ H Q I h
 exact UnaryOp_ (thn (ha pins s σ H _ I h) fun v s1 ⟨x, H1, I1, r1, q1⟩ => ho pins s1 σ H1 x v Q I1 r1 q1)
theorem opI {f : Value → Value → Sem Value} {C : Int → Int → Prop} {g : Int → Int → Int}
  (rule : ∀ (i j : Int) (t u : Tok) (s : Shared) (Q : Value → Shared → Prop) (E : Value → Shared → Prop), C i j → Q (.int (g i j) s.toks) { s with toks := s.toks + 1 } → wpAny (model X.prog X.w) X.A (f (.int i t) (.int j u)) Q E s) :
  OpR X f (rI C fun i j => .int (g i j)) := by
 intro pins s σ H x y v u Q I rx ry h
 obtain ⟨i, j, rfl, rfl, hc, q⟩ := h
 obtain ⟨t, rfl⟩ := rx
 obtain ⟨t', rfl⟩ := ry
 exact rule i j t t' s _ _ hc ⟨.int (g i j), H, I.tok _, ⟨_, rfl⟩, q⟩
theorem opI0 {f : Value → Value → Sem Value} {g : Int → Int → Int}
  (rule : ∀ (i j : Int) (t u : Tok) (s : Shared) (Q : Value → Shared → Prop) (E : Value → Shared → Prop), Q (.int (g i j) s.toks) { s with toks := s.toks + 1 } → wpAny (model X.prog X.w) X.A (f (.int i t) (.int j u)) Q E s) :
  OpR X f (rI0 fun i j => .int (g i j)) := by
 intro pins s σ H x y v u Q I rx ry h
 obtain ⟨i, j, rfl, rfl, q⟩ := h
 obtain ⟨t, rfl⟩ := rx
 obtain ⟨t', rfl⟩ := ry
 exact rule i j t t' s _ _ ⟨.int (g i j), H, I.tok _, ⟨_, rfl⟩, q⟩
theorem opB0 {f : Value → Value → Sem Value} {g : Int → Int → Bool}
  (rule : ∀ (i j : Int) (t u : Tok) (s : Shared) (Q : Value → Shared → Prop) (E : Value → Shared → Prop), Q (.bool (g i j)) s → wpAny (model X.prog X.w) X.A (f (.int i t) (.int j u)) Q E s) :
  OpR X f (rI0 fun i j => .bl (g i j)) := by
 intro pins s σ H x y v u Q I rx ry h
 obtain ⟨i, j, rfl, rfl, q⟩ := h
 obtain ⟨t, rfl⟩ := rx
 obtain ⟨t', rfl⟩ := ry
 exact rule i j t t' s _ _ ⟨.bl (g i j), H, I, rfl, q⟩
noncomputable def CDiv (i j : Int) : Prop := 0 < j ∧ j < 1073741824
noncomputable def CMul (i j : Int) : Prop := (-(2 ^ 64) < i ∧ i < 2 ^ 64) ∨ (-(2 ^ 64) < j ∧ j < 2 ^ 64)
theorem CMul.ok {i j : Int} (h : CMul i j) : IntMulOk i j := by
 rcases h with ⟨h1, h2⟩ | ⟨h1, h2⟩
 ·exact .of_left (intBits_le_64 h1 h2)
 ·exact .of_right (intBits_le_64 h1 h2)
theorem two_pow_nn (k : Nat) : (0 : Int) ≤ 2 ^ k := by
 rw [two_pow_cast]
 exact Int.natCast_nonneg _
theorem op_add : OpR X (binaryOp .Add) (rI0 fun i j => .int (i + j)) := opI0 fun _ _ _ _ _ _ _ q => add_int q
theorem op_sub : OpR X (binaryOp .Sub) (rI0 fun i j => .int (i - j)) := opI0 fun _ _ _ _ _ _ _ q => sub_int q
theorem op_mul : OpR X (binaryOp .Mult) (rI CMul fun i j => .int (i * j)) := opI fun _ _ _ _ _ _ _ hc q => mul_int q hc.ok
theorem op_fdiv : OpR X (binaryOp .FloorDiv) (rI CDiv fun i j => .int (i / j)) := opI fun i j _ _ _ _ _ hc q => by
 have h1 : (0 : Int) < j := hc.1
 have h2 : j < 1073741824 := hc.2
 exact floordiv_int (by omega) (by rw [Int.fdiv_eq_ediv_of_nonneg i (by omega)]; exact q) (.inl (PyProof.noPylong_small (by omega)))
theorem op_mod : OpR X (binaryOp .Mod) (rI (fun _ j => 0 < j) fun i j => .int (i % j)) := opI fun i j _ _ _ _ _ hc q => by
 have h1 : (0 : Int) < j := hc
 exact mod_int' (by omega) (by rw [Int.fmod_eq_emod_of_nonneg i (by omega)]; exact q)
theorem op_shr : OpR X (binaryOp .RShift) (rI (fun _ j => 0 ≤ j) fun i j => .int (i / 2 ^ j.toNat)) := opI fun i j _ _ _ _ _ hc q =>
 rshift_int hc (by rw [Int.fdiv_eq_ediv_of_nonneg i (two_pow_nn _)]; exact q)
theorem op_and : OpR X (binaryOp .BitAnd) (rI0 fun i j => .int (Builtin.bitAnd i j)) := opI0 fun _ _ _ _ _ _ _ q => and_int q
theorem op_or : OpR X (binaryOp .BitOr) (rI0 fun i j => .int (Builtin.bitOr i j)) := opI0 fun _ _ _ _ _ _ _ q => or_int q
theorem iop_add : OpR X (inplaceOp .Add) (rI0 fun i j => .int (i + j)) := opI0 fun _ _ _ _ _ _ _ q => iadd_int q
theorem unI {f : Value → Sem Value} {g : Int → Int}
  (rule : ∀ (i : Int) (t : Tok) (s : Shared) (Q : Value → Shared → Prop) (E : Value → Shared → Prop), Q (.int (g i) s.toks) { s with toks := s.toks + 1 } → wpAny (model X.prog X.w) X.A (f (.int i t)) Q E s) :
  UnR X f (rU fun i => .int (g i)) := by
 intro pins s σ H x v Q I rx h
 obtain ⟨i, rfl, q⟩ := h
 obtain ⟨t, rfl⟩ := rx
 exact rule i t s _ _ ⟨.int (g i), H, I.tok _, ⟨_, rfl⟩, q⟩
theorem un_neg : UnR X (unaryOp .USub) (rU fun i => .int (-i)) := unI fun _ _ _ _ _ q => neg_int q
end
noncomputable def scal : V → V → Bool
 | .non, .non => true | .non, .int _ => true | .int _, .non => true | .non, .bl _ => true | .bl _, .non => true | .non, .str _ => true | .str _, .non => true
 | .int _, .int _ => true | .bl _, .bl _ => true | .str _, .str _ => true | .byt _, .byt _ => true
 | .int _, .str _ => true | .str _, .int _ => true | .bl _, .str _ => true | .str _, .bl _ => true
 | _, _ => false
noncomputable def rEq : R2 := fun x y H Q => scal x y = true ∧ Q (.bl (decide (x = y))) H
noncomputable def rNe : R2 := fun x y H Q => scal x y = true ∧ Q (.bl (!decide (x = y))) H
theorem dec_int {i j : Int} : decide (V.int i = V.int j) = (i == j) := by
 rw [Bool.eq_iff_iff]
 simp
theorem dec_bl {i j : Bool} : decide (V.bl i = V.bl j) = (i == j) := by
 rw [Bool.eq_iff_iff]
 simp
theorem dec_str {i j : Str} : decide (V.str i = V.str j) = (i == j) := by
 rw [Bool.eq_iff_iff]
 simp
theorem dec_byt {i j : Array UInt8} : decide (V.byt i = V.byt j) = (i.toList == j.toList) := by
 rw [Bool.eq_iff_iff]
 cases i
 cases j
 simp
section
variable {X : Cx} {a b c : Expr} {ta tb tc : TE} {pos : Pos}
theorem fin_bl {pins : List (Addr × Obj)} {σ : St} {H : Hp} {s : Shared} {Q : VK} {k k' : Bool} (I : Inv X pins σ H s) (q : Q (.bl k) H) (e : k = k') : EP X pins σ Q (.bool k') s := by
 subst e
 exact ⟨.bl k, H, I, rfl, q⟩
theorem op_eq : OpR X (compareOp .Eq) rEq := by
 intro pins s σ H x y v u Q I rx ry h
 obtain ⟨hs, q⟩ := h
 cases x with
 | non =>
  cases rx
  cases y with
  | non => cases ry; exact PySem.EqNone.eq_none_none (fin_bl I q (by simp))
  | bl j => cases ry; exact PySem.EqNone.eq_none_bool (fin_bl I q (by simp))
  | int j => obtain ⟨t', rfl⟩ := ry; exact PySem.EqNone.eq_none_int (fin_bl I q (by simp))
  | str j => obtain ⟨t', rfl⟩ := ry; exact PySem.EqNone.eq_none_str (fin_bl I q (by simp))
  | _ => exact absurd (show false = true from hs) Bool.false_ne_true
 | bl i =>
  cases rx
  cases y with
  | non => cases ry; exact PySem.EqNone.eq_bool_none (fin_bl I q (by simp))
  | bl j => cases ry; exact eq_bool (fin_bl I q dec_bl)
  | str j => obtain ⟨t', rfl⟩ := ry; exact PySem.EqMixed.eq_bool_str (fin_bl I q (by simp))
  | _ => exact absurd (show false = true from hs) Bool.false_ne_true
 | int i =>
  obtain ⟨t, rfl⟩ := rx
  cases y with
  | non => cases ry; exact PySem.EqNone.eq_int_none (fin_bl I q (by simp))
  | int j => obtain ⟨t', rfl⟩ := ry; exact eq_int (fin_bl I q dec_int)
  | str j => obtain ⟨t', rfl⟩ := ry; exact PySem.EqMixed.eq_int_str (fin_bl I q (by simp))
  | _ => exact absurd (show false = true from hs) Bool.false_ne_true
 | str i =>
  obtain ⟨t, rfl⟩ := rx
  cases y with
  | non => cases ry; exact PySem.EqNone.eq_str_none (fin_bl I q (by simp))
  | bl j => cases ry; exact PySem.EqMixed.eq_str_bool (fin_bl I q (by simp))
  | int j => obtain ⟨t', rfl⟩ := ry; exact PySem.EqMixed.eq_str_int (fin_bl I q (by simp))
  | str j => obtain ⟨t', rfl⟩ := ry; exact eq_str (fin_bl I q dec_str)
  | _ => exact absurd (show false = true from hs) Bool.false_ne_true
 | byt i =>
  obtain ⟨t, rfl⟩ := rx
  cases y with
  | byt j => obtain ⟨t', rfl⟩ := ry; exact PySem.W.eq_bytes (fin_bl I q dec_byt)
  | _ => exact absurd (show false = true from hs) Bool.false_ne_true
 | _ => cases y <;> exact absurd (show false = true from hs) Bool.false_ne_true
theorem op_ne : OpR X (compareOp .NotEq) rNe := by
 intro pins s σ H x y v u Q I rx ry h
 obtain ⟨hs, q⟩ := h
 cases x with
 | non =>
  cases rx
  cases y with
  | non => cases ry; exact PySem.EqNone.ne_none_none (fin_bl I q (by simp))
  | bl j => cases ry; exact PySem.EqNone.ne_none_bool (fin_bl I q (by simp))
  | int j => obtain ⟨t', rfl⟩ := ry; exact PySem.EqNone.ne_none_int (fin_bl I q (by simp))
  | str j => obtain ⟨t', rfl⟩ := ry; exact PySem.EqNone.ne_none_str (fin_bl I q (by simp))
  | _ => exact absurd (show false = true from hs) Bool.false_ne_true
 | bl i =>
  cases rx
  cases y with
  | non => cases ry; exact PySem.EqNone.ne_bool_none (fin_bl I q (by simp))
  | bl j => cases ry; exact ne_bool (fin_bl I q (congrArg not dec_bl))
  | str j => obtain ⟨t', rfl⟩ := ry; exact PySem.EqMixed.ne_bool_str (fin_bl I q (by simp))
  | _ => exact absurd (show false = true from hs) Bool.false_ne_true
 | int i =>
  obtain ⟨t, rfl⟩ := rx
  cases y with
  | non => cases ry; exact PySem.EqNone.ne_int_none (fin_bl I q (by simp))
  | int j => obtain ⟨t', rfl⟩ := ry; exact ne_int (fin_bl I q (congrArg not dec_int))
  | str j => obtain ⟨t', rfl⟩ := ry; exact PySem.EqMixed.ne_int_str (fin_bl I q (by simp))
  | _ => exact absurd (show false = true from hs) Bool.false_ne_true
 | str i =>
  obtain ⟨t, rfl⟩ := rx
  cases y with
  | non => cases ry; exact PySem.EqNone.ne_str_none (fin_bl I q (by simp))
  | bl j => cases ry; exact PySem.EqMixed.ne_str_bool (fin_bl I q (by simp))
  | int j => obtain ⟨t', rfl⟩ := ry; exact PySem.EqMixed.ne_str_int (fin_bl I q (by simp))
  | str j => obtain ⟨t', rfl⟩ := ry; exact ne_str (fin_bl I q (congrArg not dec_str))
  | _ => exact absurd (show false = true from hs) Bool.false_ne_true
 | byt i =>
  obtain ⟨t, rfl⟩ := rx
  cases y with
  | byt j => obtain ⟨t', rfl⟩ := ry; exact PySem.W.ne_bytes (fin_bl I q (congrArg not dec_byt))
  | _ => exact absurd (show false = true from hs) Bool.false_ne_true
 | _ => cases y <;> exact absurd (show false = true from hs) Bool.false_ne_true
theorem op_lt : OpR X (compareOp .Lt) (rI0 fun i j => .bl (decide (i < j))) := opB0 fun _ _ _ _ _ _ _ q => lt_int q
theorem op_gt : OpR X (compareOp .Gt) (rI0 fun i j => .bl (decide (j < i))) := opB0 fun _ _ _ _ _ _ _ q => gt_int q
theorem op_ge : OpR X (compareOp .GtE) (rI0 fun i j => .bl (decide (j ≤ i))) := opB0 fun _ _ _ _ _ _ _ q => ge_int q
theorem op_isN : OpR X (compareOp .Is) (fun x y H Q => y = .non ∧ Q (.bl (decide (x = .non))) H) := by
 intro pins s σ H x y v u Q I rx ry h
 obtain ⟨rfl, q⟩ := h
 cases ry
 refine is_none_gen (fin_bl I q ?_)
 cases x <;> first
  | (cases rx; rfl)
  | (obtain ⟨t, rfl⟩ := rx; rfl)
theorem op_notN : OpR X (compareOp .IsNot) (fun x y H Q => y = .non ∧ Q (.bl (!decide (x = .non))) H) := by
 intro pins s σ H x y v u Q I rx ry h
 obtain ⟨rfl, q⟩ := h
 cases ry
 refine isnot_none_gen (fin_bl I q ?_)
 cases x <;> first
  | (cases rx; rfl)
  | (obtain ⟨t, rfl⟩ := rx; rfl)
theorem OpR.or {f : Value → Value → Sem Value} {r r' : R2} (h : OpR X f r) (h' : OpR X f r') : OpR X f (fun x y H Q => r x y H Q ∨ r' x y H Q) := by
 intro pins s σ H x y v u Q I rx ry q
 rcases q with q | q
 ·exact h pins s σ H x y v u Q I rx ry q
 ·exact h' pins s σ H x y v u Q I rx ry q
theorem nomark (b : Expr) {op : CmpOp} (h : op ≠ .In := by decide) (h2 : op ≠ .NotIn := by decide) : behindInMarks op b = false := by
 have e1 : (op == CmpOp.In) = false := by cases op <;> first | rfl | exact absurd rfl h
 have e2 : (op == CmpOp.NotIn) = false := by cases op <;> first | rfl | exact absurd rfl h2
 cases b <;> simp [behindInMarks, e1, e2]
theorem pe_cmpR {op : CmpOp} {r : R2} (ho : OpR X (compareOp op) r) (ha : PE X a ta) (hb : PE X b tb) (hm : behindInMarks op b = false) : PE X (.Compare a [op] [b] pos) (tOp r ta tb) := by
 intro pins s σ H Q I h
 exact wpAny_Compare1 (binT ha hb I h fun v u s2 x y H2 I2 rx ry q => ho pins s2 σ H2 x y v u Q I2 rx ry q) hm
noncomputable def tTest (t : TE) : TT := fun σ H Q => t σ H fun x H' => ∃ k, x = .bl k ∧ Q k H'
theorem pt_cmpR {op : CmpOp} {r : R2} (ho : OpR X (compareOp op) r) (ha : PE X a ta) (hb : PE X b tb) (hm : behindInMarks op b = false) : PT X (.Compare a [op] [b] pos) (tTest (tOp r ta tb)) := by
 intro pins s σ H Q I h
 refine wpAny_isTrue_Compare1 (thn (ha pins s σ H _ I h) fun v s1 ⟨x, H1, I1, r1, q1⟩ => thn (hb pins s1 σ H1 _ I1 q1) fun u s2 ⟨y, H2, I2, r2, q2⟩ =>
  thn (ho pins s2 σ H2 x y v u _ I2 r1 r2 q2) fun c s3 ⟨z, H3, I3, r3, k, e, q3⟩ => ?_) hm
 subst e
 cases r3
 exact wpAny_truthy_bool ⟨H3, I3, q3⟩
noncomputable def tChain (r r' : R2) (ta tb tc : TE) : TE := fun σ H Q => ta σ H fun x H1 => tb σ H1 fun y H2 => r x y H2 fun z H3 => ∃ k, z = .bl k ∧
 (if k = true then tc σ H3 fun w' H4 => r' y w' H4 Q else Q (.bl false) H3)
theorem line63 : (sizeLine : Nat) < 2 ^ 63 := by rw [sizeLine_eq]; decide
theorem op_add_str : OpR X (binaryOp .Add) (fun x y H Q => ∃ i j, x = .str i ∧ y = .str j ∧ i.length + j.length ≤ sizeLine ∧ Q (.str (i ++ j)) H) := by
 intro pins s σ H x y v u Q I rx ry h
 obtain ⟨i, j, rfl, rfl, hz, q⟩ := h
 obtain ⟨t, rfl⟩ := rx
 obtain ⟨t', rfl⟩ := ry
 exact add_str (fun t' tk => ⟨.str (i ++ j), H, I.tok _, ⟨_, rfl⟩, q⟩) hz
theorem vals1 {x : V} {us : List Value} (r : Vals [x] us) : ∃ u, us = [u] ∧ RelV x u := by
 cases r with
 | cons r1 r2 => cases r2; exact ⟨_, rfl, r1⟩
theorem vals2 {x y : V} {us : List Value} (r : Vals [x, y] us) : ∃ u w', us = [u, w'] ∧ RelV x u ∧ RelV y w' := by
 cases r with
 | cons r1 r2 =>
  cases r2 with
  | cons r3 r4 => cases r4; exact ⟨_, _, rfl, r1, r3⟩
theorem call_abs : CallR X (.builtin "abs") (fun xs H Q => ∃ i, xs = [.int i] ∧ Q (.int (if i < 0 then -i else i)) H) := by
 intro pins s σ H xs us Q I r h
 obtain ⟨i, rfl, q⟩ := h
 obtain ⟨u, rfl, t, rfl⟩ := vals1 r
 exact call_abs_int fun u tk => ⟨.int (if i < 0 then -i else i), H, I.tok _, ⟨_, rfl⟩, q⟩
theorem call_max2 (hc : X.calm = true) : CallR X (.builtin "max") (fun xs H Q => ∃ i j, xs = [.int i, .int j] ∧ Q (.int (if j > i then j else i)) H) := by
 intro pins s σ H xs us Q I r h
 obtain ⟨i, j, rfl, q⟩ := h
 obtain ⟨u, w', rfl, ⟨t, rfl⟩, ⟨t', rfl⟩⟩ := vals2 r
 refine max_two_ints (I.ok.hd hc) fun h' tk k => ⟨_, H, I.kept k, ?_, q⟩
 by_cases hj : j > i
 ·rw [if_pos hj, if_pos hj]; exact ⟨_, rfl⟩
 ·rw [if_neg hj, if_neg hj]; exact ⟨_, rfl⟩
theorem call_min2 (hc : X.calm = true) : CallR X (.builtin "min") (fun xs H Q => ∃ i j, xs = [.int i, .int j] ∧ Q (.int (if j < i then j else i)) H) := by
 intro pins s σ H xs us Q I r h
 obtain ⟨i, j, rfl, q⟩ := h
 obtain ⟨u, w', rfl, ⟨t, rfl⟩, ⟨t', rfl⟩⟩ := vals2 r
 refine min_two_ints (I.ok.hd hc) fun h' tk k => ⟨_, H, I.kept k, ?_, q⟩
 by_cases hj : j < i
 ·rw [if_pos hj, if_pos hj]; exact ⟨_, rfl⟩
 ·rw [if_neg hj, if_neg hj]; exact ⟨_, rfl⟩
theorem call_str_int : CallR X (.type "str") (fun xs H Q => ∃ i, xs = [.int i] ∧ i.natAbs.log2 < 1920 ∧ Q (.str (toString i)) H) := by
 intro pins s σ H xs us Q I r h
 obtain ⟨i, rfl, hz, q⟩ := h
 obtain ⟨u, rfl, t, rfl⟩ := vals1 r
 exact PySem.P.str_of_int hz ⟨.str _, H, I.tok _, ⟨_, rfl⟩, q⟩
end
end L2
namespace L2
open PySem PySem.Spec PyProof.Rows
structure ObjM (h : Heap) (x dx C : Addr) (mA : Str → Option Value) : Prop where
 obj : h.get? x = some (PySem.W.instObj C dx)
 ns : h.Ns1 dx mA
 ne : dx ≠ x
theorem lookIn_ns {h : Heap} {dx : Addr} {mA : Str → Option Value} (n : h.Ns1 dx mA) : ∃ od, h.get? dx = some od ∧ ∀ name, PySem.W.lookIn name od = some (mA name) := by
 obtain ⟨o, es, ep, ho, hd, hk, _, hm⟩ := n
 refine ⟨o, ho, fun name => ?_⟩
 have e := hm name
 unfold nsFind findBy at e
 rw [← Array.find?_toList] at e
 unfold PySem.W.lookIn
 rw [hd]
 dsimp only
 split
 ·rename_i y q
  rw [q] at e
  exact congrArg some e
 ·rename_i q
  rw [q] at e
  have a : es.toList.any (·.refKey) = false := by
   rw [List.any_eq_false]
   intro y hy
   obtain ⟨z, t, hkey⟩ := hk y (Array.mem_toList_iff.mp hy)
   simp [DictEntry.refKey, hkey]
  have a' : ¬ es.toList.any (·.refKey) = true := by rw [a]; exact Bool.false_ne_true
  rw [if_neg a']
  exact congrArg some e
theorem ObjM.look {h : Heap} {x dx C : Addr} {mA : Str → Option Value} (I : ObjM h x dx C mA) : ∃ od, PySem.W.InstAt h x (PySem.W.instObj C dx) C (some od) ∧ ∀ name, PySem.W.lookIn name od = some (mA name) :=
 let ⟨od, ho, hl⟩ := lookIn_ns I.ns
 ⟨od, ⟨I.obj, rfl, rfl, ho⟩, hl⟩
section
variable {prog : Program} {w : World} {A : Around} {E : Value → Shared → Prop} {s : Shared} {K : PySem.W.Frag} {x dx C f : Addr} {mA : Str → Option Value} {name : Str} {v : Value}
theorem get_map {expr : Bool} {Q : Value → Shared → Prop} (X : K.In s.heap) (I : ObjM s.heap x dx C mA) (hg : PySem.W.plainGet K C name = true) (hh : PySem.W.hasDictIn K C = true)
  (ha : PySem.W.findIn K (.ref C) name = some none) (hv : mA name = some v) (hv' : PySem.W.handedIn v = true) (h : Q v { s with toks := s.toks + 1 }) :
  wpAny (model prog w) A (getAttr (.ref x) name expr) Q E s := by
 obtain ⟨od, J, hl⟩ := I.look
 exact PySem.W.get_value X J (PySem.W.plainGet_of hg).1 (PySem.W.findObj_own hh ha rfl (by rw [hl, hv])) hv' h
theorem get_meth {pl : Sem Bool} {Q : Value × List Value → Shared → Prop} (X : K.In s.heap) (I : ObjM s.heap x dx C mA) (hg : PySem.W.plainGet K C name = true)
  (hf : PySem.W.findIn K (.ref C) name = some (some (.ref f))) (ht : PySem.W.isFn K (.ref f) = true) (hv : mA name = none) (h : Q (.ref f, [.ref x]) s) :
  wpAny (model prog w) A (getMethod (.ref x) name pl) Q E s := by
 obtain ⟨od, J, hl⟩ := I.look
 exact PySem.W.method_fn X J (PySem.W.plainGet_of hg).1 (PySem.W.plainGet_of hg).2 hf (beq_iff_eq.mp ht) (by show (PySem.W.lookIn name od).map (·.isSome) = some false; rw [hl, hv]; rfl) h
theorem set_map {ns : List Str} {Q : Unit → Shared → Prop} (X : K.In s.heap) (I : ObjM s.heap x dx C mA)
  (hs : PySem.W.findIn K (.ref C) "__setattr__" = some (some (.builtin "object.__setattr__"))) (hp : PySem.W.plainOver K C = true) (ht : PySem.W.takerIn K C name = some none) (hh : PySem.W.hasDictIn K C = true)
  (hw : PySem.Within mA ns) (hsz : ns.length ≤ sizeLine)
  (h : ∀ h', ObjM h' x dx C (fun y => if y = name then some v else mA y) → Heap.SameBut dx s.heap h' → Q () { s with heap := h', toks := s.toks + 2 }) :
  wpAny (model prog w) A (setAttr (.ref x) name v) Q E s := by
 obtain ⟨od, J, hl⟩ := I.look
 refine PySem.W.set_plain X J hs (PySem.W.osa_open (s := { s with toks := s.toks + 1 }) (r := none) X J hp ht fun b => ?_)
 obtain ⟨cd, hc, hd'⟩ := PySem.W.any_some hh
 have hx : s.heap.get? x = some ⟨.ref C, some dx, .plain, #[]⟩ := I.obj
 refine wpAny_bind (wpAny_pure (wpAny_bind (wpAny_bind (wpAny_loadPart hx (wpAny_bind (PySem.W.Looks.here (s := { s with toks := s.toks + 1 }) (PySem.W.looks_clsIn X hc) ?_))))))
 rw [hd']
 refine wpAny_pure (a := some dx) (wpAny_bind (wpAny_pure (wpAny_bind ?_)))
 refine wpAny_nsSet1 (s := { s with toks := s.toks + 1 }) I.ns fun h' hn2 hs2 => ?_
 obtain ⟨oD, esD, epD, hoD, hdD, hcD⟩ := hn2.count (PySem.Within.cons name v hw)
 refine wpAny_bind (wpAny_lookBehind hoD (by rw [hdD]; exact pastItsLine_dict (Nat.le_trans hcD (by rw [List.length_cons]; omega))) ?_)
 exact wpAny_pure (h _ ⟨(hs2.2 _ (Ne.symm I.ne)).trans I.obj, hn2, I.ne⟩ hs2)
theorem make_map {R : Result → Shared → Prop} {vs : List Value} {kw : List (Str × Value)} (X : K.In s.heap) (hm : PySem.W.makesIn K C = true)
  (hi : PySem.W.findIn K (.ref C) "__init__" = some (some (.ref f))) (hf : PySem.W.typeIn K (.ref f) = some (.type "function"))
  (h : codeAny (model prog w) (A.under (.builtin "type.__call__" ⟨.ref C :: vs, kw⟩)) (.call (.ref f) ⟨.ref (s.heap.objs.size + 1) :: vs, kw⟩) (PySem.W.InitBack (s.heap.objs.size + 1) R)
   { s with heap := (s.heap.push PySem.W.emptyDict).push (PySem.W.instObj C s.heap.objs.size) }) :
  codeAny (model prog w) A (.call (.ref C) ⟨vs, kw⟩) R s := by
 obtain ⟨hh, g, d, t, os⟩ := s
 exact PySem.W.make_core (PySem.W.makes_of X hm) (PySem.W.looks_findIn X hi) (fun self => PySem.W.bind_fn X self hf) (.inl rfl) h
end
noncomputable def putF (f : Str) (v : V) : List (Str × V) → List (Str × V)
 | [] => [(f, v)]
 | (g, x) :: r => if g = f then (g, v) :: r else (g, x) :: putF f v r
theorem lookup_putF (f g : Str) (v : V) : ∀ fs : List (Str × V), (putF f v fs).lookup g = if g = f then some v else fs.lookup g
 | [] => by
  show List.lookup g [(f, v)] = _
  by_cases h : g = f
  ·have hb : (g == f) = true := beq_iff_eq.mpr h
   simp only [List.lookup, hb, if_pos h]
  ·have hb : (g == f) = false := beq_eq_false_iff_ne.mpr h
   simp only [List.lookup, hb, if_neg h]
 | (k, x) :: r => by
  have ih := lookup_putF f g v r
  rw [show putF f v ((k, x) :: r) = (if k = f then (k, v) :: r else (k, x) :: putF f v r) from rfl]
  by_cases hk : k = f
  ·rw [if_pos hk]
   by_cases h : g = k
   ·have hb : (g == k) = true := beq_iff_eq.mpr h
    simp only [List.lookup, hb, if_pos (h.trans hk)]
   ·have hb : (g == k) = false := beq_eq_false_iff_ne.mpr h
    simp only [List.lookup, hb, if_neg (fun e : g = f => h (e.trans hk.symm))]
  ·rw [if_neg hk]
   by_cases h : g = k
   ·have hb : (g == k) = true := beq_iff_eq.mpr h
    simp only [List.lookup, hb, if_neg (fun e : g = f => hk (h.symm.trans e))]
   ·have hb : (g == k) = false := beq_eq_false_iff_ne.mpr h
    simp only [List.lookup, hb]
    exact ih
theorem keys_putF (f : Str) (v : V) : ∀ fs : List (Str × V), f ∈ (putF f v fs).map (·.1) ∧ ∀ g, g ∈ fs.map (·.1) → g ∈ (putF f v fs).map (·.1)
 | [] => ⟨by simp [putF], fun g h => by simp at h⟩
 | (k, x) :: r => by
  obtain ⟨i1, i2⟩ := keys_putF f v r
  rw [show putF f v ((k, x) :: r) = (if k = f then (k, v) :: r else (k, x) :: putF f v r) from rfl]
  by_cases hk : k = f
  ·rw [if_pos hk]
   subst hk
   exact ⟨by simp, fun g h => by simpa using h⟩
  ·rw [if_neg hk]
   refine ⟨?_, fun g h => ?_⟩
   ·rw [List.map_cons]
    exact List.mem_cons_of_mem _ i1
   ·rw [List.map_cons] at h ⊢
    rcases List.mem_cons.mp h with e | e
    ·exact List.mem_cons.mpr (.inl e)
    ·exact List.mem_cons_of_mem _ (i2 g e)
theorem length_putF (f : Str) (v : V) : ∀ fs : List (Str × V), (putF f v fs).length ≤ fs.length + 1
 | [] => by simp [putF]
 | (k, x) :: r => by
  have ih := length_putF f v r
  rw [show putF f v ((k, x) :: r) = (if k = f then (k, v) :: r else (k, x) :: putF f v r) from rfl]
  by_cases hk : k = f
  ·rw [if_pos hk, List.length_cons, List.length_cons]; omega
  ·rw [if_neg hk, List.length_cons, List.length_cons]; omega
theorem RelO.some_of {v : V} {o : Option Value} (r : RelO (some v) o) : ∃ u, o = some u ∧ RelV v u := by
 cases o with
 | none => exact (show False from r).elim
 | some u => exact ⟨u, rfl, r⟩
theorem RelO.none_of {o : Option Value} (r : RelO none o) : o = none := by
 cases o with
 | none => rfl
 | some u => exact (show False from r).elim
theorem handed_of {v : V} {u : Value} (r : RelV v u) : PySem.W.handedIn u = true := by
 cases v with
 | non => cases (show u = Value.none from r); rfl
 | bl b => cases (show u = Value.bool b from r); rfl
 | int i => obtain ⟨t, e⟩ := (show ∃ t, u = Value.int i t from r); cases e; rfl
 | str x => obtain ⟨t, e⟩ := (show ∃ t, u = Value.str x t from r); cases e; rfl
 | byt b => obtain ⟨t, e⟩ := (show ∃ t, u = Value.bytes b t from r); cases e; rfl
 | flt b => obtain ⟨t, e⟩ := (show ∃ t, u = Value.float b t from r); cases e; rfl
 | ref a => cases (show u = Value.ref a from r); rfl
 | ty n => cases (show u = Value.type n from r); rfl
section
variable {P : Program} {w : World} {H H' : Hp} {h h' : Heap} {a C dx : Addr} {fs fs' : List (Str × V)}
theorem ins_get (hok : HOk P w H h) (e : H a = some (.ins C dx fs)) : ∃ mA, ObjM h a dx C mA ∧ (∀ f, RelO (fs.lookup f) (mA f)) ∧ PySem.Within mA (fs.map (·.1)) ∧ fs.length ≤ 1000 ∧ H dx = some (.own a) := by
 obtain ⟨d, z, ne, ob, mA, n, r, q⟩ := (show ObjOk P w H h a (.ins C dx fs) from hok a _ e)
 exact ⟨mA, ⟨ob, n, ne⟩, r, q, z, d⟩
end
structure Cls (K : PySem.W.Frag) (C : Addr) : Prop where
 pg : PySem.W.plainGet K C Str.empty = true
 hd : PySem.W.hasDictIn K C = true
 po : PySem.W.plainOver K C = true
 sa : PySem.W.findIn K (.ref C) "__setattr__" = some (some (.builtin "object.__setattr__"))
theorem Cls.get {K : PySem.W.Frag} {C : Addr} (c : Cls K C) (f : Str) : PySem.W.plainGet K C f = true := c.pg
noncomputable def NoAttr (K : PySem.W.Frag) (C : Addr) (f : Str) : Prop := PySem.W.findIn K (.ref C) f = some none
theorem NoAttr.taker {K : PySem.W.Frag} {C : Addr} {f : Str} (n : NoAttr K C f) : PySem.W.takerIn K C f = some none := by
 unfold PySem.W.takerIn
 rw [show PySem.W.findIn K (.ref C) f = some none from n]
 rfl
structure Meth (K : PySem.W.Frag) (C : Addr) (m : Str) (f : Addr) : Prop where
 at_ : PySem.W.findIn K (.ref C) m = some (some (.ref f))
 fn : PySem.W.isFn K (.ref f) = true
 kp : PySem.W.keepIn K (.ref f) = true
section
variable {X : Cx} {pins : List (Addr × Obj)} {σ : St} {H : Hp} {s : Shared} {a C dx : Addr} {fs : List (Str × V)} {f : Str} {v : V} {A : Around} {E : Value → Shared → Prop}
theorem getattr_ok {b : Bool} {Q : Value → Shared → Prop} (I : Inv X pins σ H s) (e : H a = some (.ins C dx fs)) (c : Cls X.K C) (n : NoAttr X.K C f) (l : fs.lookup f = some v)
  (h : ∀ u s', Inv X pins σ H s' → RelV v u → Q u s') : wpAny (model X.prog X.w) A (getAttr (.ref a) f b) Q E s := by
 obtain ⟨mA, O, r, _, _, _⟩ := ins_get I.hok e
 obtain ⟨u, hu, ru⟩ := RelO.some_of (v := v) (o := mA f) (by rw [← l]; exact r f)
 exact get_map I.kIn O (c.get f) c.hd n hu (handed_of ru) (h u _ (I.tok _) ru)
theorem getmeth_ok {m : Str} {g : Addr} {pl : Sem Bool} {Q : Value × List Value → Shared → Prop} (I : Inv X pins σ H s) (e : H a = some (.ins C dx fs)) (c : Cls X.K C) (k : Meth X.K C m g) (l : fs.lookup m = none)
  (h : Q (.ref g, [.ref a]) s) : wpAny (model X.prog X.w) A (getMethod (.ref a) m pl) Q E s := by
 obtain ⟨mA, O, r, _, _, _⟩ := ins_get I.hok e
 have hn : mA m = none := RelO.none_of (by rw [← l]; exact r m)
 exact get_meth I.kIn O (c.get m) k.at_ k.fn hn h
theorem setattr_ok {y : V} {u : Value} {Q : Unit → Shared → Prop} (I : Inv X pins σ H s) (e : H a = some (.ins C dx fs)) (c : Cls X.K C) (n : NoAttr X.K C f) (hl : fs.length < 1000) (ry : RelV y u)
  (h : ∀ s', Inv X pins σ (upd H a (.ins C dx (putF f y fs))) s' → Q () s') : wpAny (model X.prog X.w) A (setAttr (.ref a) f u) Q E s := by
 obtain ⟨mA, O, r, wi, _, ho⟩ := ins_get I.hok e
 have hz : (fs.map (·.1)).length ≤ sizeLine := by rw [List.length_map, sizeLine_eq]; omega
 refine set_map I.kIn O c.sa c.po n.taker c.hd wi hz fun h' O' sb => h _ ?_
 have hd : ∃ o, h'.get? dx = some o := let ⟨o, _, _, e', _⟩ := O'.ns; ⟨o, e'⟩
 refine I.write (x := a) (e := dx) (by rw [e]; exact True.intro) (.inr ho) (fun b q hb z => (sb.2 b hb).trans z) hd ?_
 refine ⟨by rw [upd_ne O.ne]; exact ho, ?_, O.ne, O'.obj, _, O'.ns, fun g => ?_, fun g hg => ?_⟩
 ·have := length_putF f y fs; omega
 ·show RelO ((putF f y fs).lookup g) (if g = f then some u else mA g)
  rw [lookup_putF]
  by_cases q : g = f
  ·rw [if_pos q, if_pos q]; exact ry
  ·rw [if_neg q, if_neg q]; exact r g
 ·by_cases q : g = f
  ·rw [q]; exact (keys_putF f y fs).1
  ·refine (keys_putF f y fs).2 g (wi g fun z => hg ?_)
   show (if g = f then some u else mA g) = none
   rw [if_neg q]; exact z
theorem Inv.made (I : Inv X pins σ H s) : Inv X pins σ (upd (upd H s.heap.objs.size (.own (s.heap.objs.size + 1))) (s.heap.objs.size + 1) (.ins C s.heap.objs.size []))
  { s with heap := (s.heap.push PySem.W.emptyDict).push (PySem.W.instObj C s.heap.objs.size) } := by
 have e1 : (s.heap.push PySem.W.emptyDict).get? s.heap.objs.size = some PySem.W.emptyDict := Heap.get?_push_size s.heap rfl
 have e2 : ((s.heap.push PySem.W.emptyDict).push (PySem.W.instObj C s.heap.objs.size)).get? (s.heap.objs.size + 1) = some (PySem.W.instObj C s.heap.objs.size) := by
  have := Heap.get?_push_size (s.heap.push PySem.W.emptyDict) (o := PySem.W.instObj C s.heap.objs.size) rfl
  rwa [Heap.size_push] at this
 have e3 : (s.heap.push PySem.W.emptyDict).Ns s.heap.objs.size (fun _ => none) := ⟨PySem.W.emptyDict, #[], _, e1, rfl, (fun e he => absurd he (by simp)), fun _ => rfl⟩
 have I1 := I.laid (a := s.heap.objs.size) (o := .own (s.heap.objs.size + 1)) (h' := s.heap.push PySem.W.emptyDict) (t' := s.toks) (fun b u q => Heap.get?_push_of_some _ q) (Nat.le_refl _) ⟨_, e1⟩
 refine I1.laid (a := s.heap.objs.size + 1) (o := .ins C s.heap.objs.size []) (t' := s.toks) (fun b u q => Heap.get?_push_of_some _ q) (Nat.le_of_eq (Heap.size_push _ _)) ?_
 have ne : s.heap.objs.size ≠ s.heap.objs.size + 1 := Nat.ne_of_lt (Nat.lt_succ_self _)
 refine ⟨by rw [upd_ne ne, upd_same], Nat.zero_le _, ne, e2, fun _ => none, (Heap.Ns1.of_empty e3).at fun o q => Heap.get?_push_of_some _ q, fun _ => True.intro, fun y hy => absurd rfl hy⟩
theorem attr_of {prog : Program} {w : World} {env : Env} {e : Expr} {f : Str} {pos : Pos} {s : Shared} {Q : Value → Shared → Prop} (hb : attributeBase e f env (eval e env) = eval e env)
  (h : wpAny (model prog w) A (eval e env) (fun o s₁ => wpAny (model prog w) A (getAttr o f true) Q E s₁) E s) : wpAny (model prog w) A (eval (.Attribute e f pos) env) Q E s :=
 Attribute_any_ h (by rw [arm_eval_Attribute, hb])
end
section
variable {X : Cx} {o e value : Expr} {f : Str} {pos pos' tpos : Pos} {ta tv : TE}
end
section
variable {X : Cx} {pins : List (Addr × Obj)} {σ : St} {H : Hp} {s : Shared} {A : Around} {E : Value → Shared → Prop} {Q : Value → Shared → Prop} {c : Value} {b : Bool}
inductive TyOf (K : PySem.W.Frag) (H : Hp) : V → Value → Prop where
 | non : TyOf K H .non (.type "NoneType")
 | bl (x : Bool) : TyOf K H (.bl x) (.type "bool")
 | int (i : Int) : TyOf K H (.int i) (.type "int")
 | str (x : Str) : TyOf K H (.str x) (.type "str")
 | flt (x : UInt64) : TyOf K H (.flt x) (.type "float")
 | lst {a : Addr} {xs : List V} (e : H a = some (.lst xs)) : TyOf K H (.ref a) (.type "list")
 | frz {a : Addr} {o : Obj} {xs : List V} (e : H a = some (.frz o (.lst xs))) : TyOf K H (.ref a) (.type "list")
 | tup {a : Addr} {xs : List V} (e : H a = some (.tup xs)) : TyOf K H (.ref a) (.type "tuple")
 | dK {a : Addr} {kvs : List (Key × V)} (e : H a = some (.dK kvs)) : TyOf K H (.ref a) (.type "dict")
 | dT {a : Addr} {kvs : List (List Key × V)} (e : H a = some (.dT kvs)) : TyOf K H (.ref a) (.type "dict")
 | ins {a C dx : Addr} {fs : List (Str × V)} (e : H a = some (.ins C dx fs)) (cl : Cls K C) (ha : PySem.W.findIn K (.ref C) "__class__" = some (some (.builtin "object.__class__")))
   (hn : PySem.W.specialIn K (.builtin "object.__class__") "__get__" = some (some (.builtin "getset_descriptor.__get__"))) (htk : PySem.W.takesIn K (.builtin "object.__class__") = some true)
   (hm : PySem.W.mroIn K C (.type "object") = some true) : TyOf K H (.ref a) (.ref C)
theorem isinst_ok {x : V} {u t : Value} (I : Inv X pins σ H s) (rx : RelV x u) (ty : TyOf X.K H x t) (e : PySem.W.kitOne X.K t c = some b) (h : ∀ tk, Q (.bool b) { s with toks := tk }) :
  wpAny (model X.prog X.w) A (call (.builtin "isinstance") [u, c]) Q E s := by
 cases ty with
 | non => cases (show u = Value.none from rx); exact PySem.W.kia_one PySem.W.kitx_none I.kIn True.intro e (fun z => nomatch z) h
 | bl y => cases (show u = Value.bool y from rx); exact PySem.W.kia_one PySem.W.kitx_bool I.kIn True.intro e (fun z => nomatch z) h
 | int i => obtain ⟨t, q⟩ := (show ∃ t, u = Value.int i t from rx); cases q; exact PySem.W.kia_one PySem.W.kitx_int I.kIn True.intro e (fun z => nomatch z) h
 | str y => obtain ⟨t, q⟩ := (show ∃ t, u = Value.str y t from rx); cases q; exact PySem.W.kia_one PySem.W.kitx_str I.kIn True.intro e (fun z => nomatch z) h
 | flt y => obtain ⟨t, q⟩ := (show ∃ t, u = Value.float y t from rx); cases q; exact PySem.W.kia_one PySem.W.kitx_float I.kIn True.intro e (fun z => nomatch z) h
 | @lst a xs ea =>
  cases (show u = Value.ref a from rx)
  obtain ⟨_, _, n, _, h1⟩ := (show ObjOk X.prog X.w H s.heap a (.lst xs) from I.hok a _ ea)
  exact PySem.W.kia_one PySem.W.kitx_list I.kIn ⟨_, h1, rfl⟩ e (fun z => nomatch z) h
 | @frz a ob xs ea =>
  cases (show u = Value.ref a from rx)
  obtain ⟨_, _, _, n, _, h1⟩ := (show ObjOk X.prog X.w H s.heap a (.frz ob (.lst xs)) from I.hok a _ ea)
  exact PySem.W.kia_one PySem.W.kitx_list I.kIn ⟨_, h1, rfl⟩ e (fun z => nomatch z) h
 | @tup a xs ea =>
  cases (show u = Value.ref a from rx)
  obtain ⟨_, _, _, p⟩ := (show ObjOk X.prog X.w H s.heap a (.tup xs) from I.hok a _ ea)
  obtain ⟨o, h1, h2, _⟩ := p
  exact PySem.W.kia_one PySem.W.kitx_tuple I.kIn ⟨o, h1, h2⟩ e (fun z => nomatch z) h
 | @dK a kvs ea =>
  cases (show u = Value.ref a from rx)
  obtain ⟨_, _, vs, _, p⟩ := (show ObjOk X.prog X.w H s.heap a (.dK kvs) from I.hok a _ ea)
  obtain ⟨o, es, ep, h1, h2, _⟩ := p
  exact PySem.W.kia_one PySem.W.kitx_dict I.kIn ⟨o, h1, h2.1⟩ e (fun z => nomatch z) h
 | @dT a kvs ea =>
  cases (show u = Value.ref a from rx)
  obtain ⟨_, _, xs, _, o, es, ep, h1, h2, _⟩ := (show ObjOk X.prog X.w H s.heap a (.dT kvs) from I.hok a _ ea)
  exact PySem.W.kia_one PySem.W.kitx_dict I.kIn ⟨o, h1, h2.1⟩ e (fun z => nomatch z) h
 | @ins a C dx fs ea cl ha hn htk hm =>
  cases (show u = Value.ref a from rx)
  obtain ⟨mA, O, _⟩ := ins_get I.hok ea
  obtain ⟨od, J, _⟩ := O.look
  exact PySem.W.kia_one (PySem.W.kitx_own (cl.get _) cl.hd ha hn htk hm) I.kIn J e (fun z => nomatch z) h
end
end L2
namespace L2
open PySem PySem.Spec PyProof.Rows
structure Room (k : Nat) (A : Around) : Prop where
 hd : A.handled = none
 dp : A.depth + 3 * k + 5 < recursionLimit
 un : A.units + 16 * k + 200 < cLine
theorem Room.mono {j k : Nat} {A : Around} (r : Room k A) (h : j ≤ k) : Room j A := ⟨r.hd, by have := r.dp; omega, by have := r.un; omega⟩
theorem Room.deeper {k : Nat} {A : Around} (r : Room (k + 1) A) (env : Env) : Room k (A.deeper env) :=
 ⟨r.hd, by have := r.dp; show A.depth + 1 + 3 * k + 5 < _; omega, by have := r.un; show A.units + 3 + 16 * k + 200 < _; omega⟩
theorem make_depth {A : Around} {C : Addr} {us : List Value} {kw : List (Str × Value)} : (A.under (.builtin "type.__call__" ⟨.ref C :: us, kw⟩)).depth = A.depth + 1 := by
 first | rfl | simp [Around.under, Code.weight, Code.isCreation, Code.isGuard, Code.isCaller, Code.frames, Code.isFrame, guardIds]
theorem make_units {A : Around} {C : Addr} {us : List Value} {kw : List (Str × Value)} : (A.under (.builtin "type.__call__" ⟨.ref C :: us, kw⟩)).units = A.units + 1 := by
 first | rfl | simp [Around.under, Code.cUnits, Code.frames, Code.isFrame]
theorem Room.make {k : Nat} {A : Around} (r : Room (k + 1) A) (C : Addr) (us : List Value) (kw : List (Str × Value)) : Room k (A.under (.builtin "type.__call__" ⟨.ref C :: us, kw⟩)) :=
 ⟨r.hd, by have := r.dp; rw [make_depth]; omega, by have := r.un; rw [make_units]; omega⟩
theorem Room.depth {k : Nat} {A : Around} (r : Room k A) : A.depth < recursionLimit := by have := r.dp; omega
theorem Room.units {k : Nat} {A : Around} (r : Room k A) : A.units + 64 < cLine := by have := r.un; omega
noncomputable def tNil : TA := fun _ H Q => Q [] H
noncomputable def tCons (ta : TE) (tr : TA) : TA := fun σ H Q => ta σ H fun x H1 => tr σ H1 fun xs H2 => Q (x :: xs) H2
section
variable {X : Cx} {e : Expr} {es : List Expr} {te : TE} {t : TA} {pos : Pos}
theorem pa_nil : PA X [] tNil := fun _ _ _ _ H Q I h => Calls.spliced_nil ⟨[], H, I, .nil, h⟩
theorem pa_cons (ha : PE X e te) (hr : PA X es t) (hs : starEach (e :: es) X.env = (false, eval e X.env) :: starEach es X.env := by rfl) : PA X (e :: es) (tCons te t) := by
 intro pos pins s σ H Q I h
 rw [hs]
 show wpAny _ _ (spliced ((false, eval e X.env) :: backTo pos (starEach es X.env))) _ _ s
 refine Calls.spliced_cons (thn (ha pins s σ H _ I h) fun u s1 ⟨x, H1, I1, r1, q1⟩ => ?_)
 exact thn (hr pos pins s1 σ H1 _ I1 q1) fun us s2 ⟨xs, H2, I2, r2, q2⟩ => ⟨x :: xs, H2, I2, .cons r1 r2, q2⟩
noncomputable def tTup (t : TA) : TE := fun σ H Q => t σ H fun xs H1 => xs.length ≤ sizeLine ∧ ∀ p, H1 p = none → Q (.ref p) (upd H1 p (.tup xs))
noncomputable def tLst (t : TA) : TE := fun σ H Q => t σ H fun xs H1 => xs.length ≤ sizeLine ∧ ∀ p, H1 p = none → Q (.ref p) (upd H1 p (.lst xs))
theorem pe_tup {x1} (h : PA X es t) : PE X (.Tuple es x1 pos) (tTup t) := by
 intro pins s σ H Q I hq
 refine wpAny_Tuple_spliced (thn (h pos pins s σ H _ I hq) fun us s1 ⟨xs, H1, I1, r, z, q⟩ => ⟨by rw [← r.length]; exact z, ?_⟩)
 have hf : H1 s1.heap.objs.size = none := I1.hok.fresh (Nat.le_refl _)
 refine ⟨.ref s1.heap.objs.size, upd H1 s1.heap.objs.size (.tup xs), I1.laid (t' := s1.toks) (fun b u e => Heap.get?_push_of_some _ e) (Nat.le_refl _) ?_, rfl, q _ hf⟩
 exact ⟨z, us, r, ⟨_, Heap.get?_push_size _ rfl, rfl, _, rfl⟩⟩
theorem pe_lst (h : PA X es t) : PE X (.List es pos) (tLst t) := by
 intro pins s σ H Q I hq
 refine wpAny_List_spliced (thn (h pos pins s σ H _ I hq) fun us s1 ⟨xs, H1, I1, r, z, q⟩ => ⟨by rw [← r.length]; exact z, ?_⟩)
 have hf : H1 s1.heap.objs.size = none := I1.hok.fresh (Nat.le_refl _)
 refine ⟨.ref s1.heap.objs.size, upd H1 s1.heap.objs.size (.lst xs), I1.laid (t' := s1.toks) (fun b u e => Heap.get?_push_of_some _ e) (Nat.le_refl _) ?_, rfl, q _ hf⟩
 exact ⟨z, us, 0, r, Heap.get?_push_size _ rfl⟩
end
noncomputable abbrev Sp := List V → Hp → VK → XK → Prop
noncomputable abbrev CXT := List Env → Hp → Shared → XK → Value → Shared → Prop
structure Env0 (P : Program) (w : World) (K : PySem.W.Frag) (mg : Str → Option Value) (base : Heap) (A : Around) (outer : List Env) (s : Shared) (H : Hp) : Prop where
 frames : A.frames = some outer
 mod : Mod K mg base
 bs : ∀ b o, base.get? b = some o → s.heap.get? b = some o ∧ H b = none
 bsz : base.objs.size ≤ s.heap.objs.size
 funs : s.heap.FunFrames base outer
 frf : ∀ b ∈ frs outer, H b = none
 hok : HOk P w H s.heap
 bare : AllBare s.gens
noncomputable def CE (outer : List Env) (P : Program) (w : World) (H : Hp) (s : Shared) (Q : VK) (u : Value) (s' : Shared) : Prop :=
 ∃ v H', s'.os = s.os ∧ AllBare s'.gens ∧ Un (frs outer) [] H H' s.heap s'.heap ∧ HOk P w H' s'.heap ∧ RelV v u ∧ Q v H'
noncomputable def CR (CX : CXT) (outer : List Env) (P : Program) (w : World) (H : Hp) (s : Shared) (Q : VK) (E : XK) (r : Result) (s' : Shared) : Prop :=
 match r with
 | .ok (.ret u) => CE outer P w H s Q u s'
 | .ok _ => False
 | .error e => CX outer H s E e s'
structure FnOk (P : Program) (w : World) (K : PySem.W.Frag) (mg : Str → Option Value) (base : Heap) (CX : CXT) (k : Nat) (f : Addr) (fd : FuncData) (ps : List Str) (sp : Sp) : Prop where
 len : ∀ vs H Q E, sp vs H Q E → vs.length = ps.length
 run : ∀ (A : Around) (outer : List Env) (s : Shared) (H : Hp) (args : Args) (us : List Value) (vs : List V) (Q : VK) (E : XK), Room k A → Env0 P w K mg base A outer s H → BindsTo s fd args (ps.zip us) → Vals vs us → sp vs H Q E →
  codeAny (model P w) A (.call (.ref f) args) (CR CX outer P w H s Q E) s
theorem Env0.make {P : Program} {w : World} {K : PySem.W.Frag} {mg : Str → Option Value} {base : Heap} {A : Around} {outer : List Env} {s : Shared} {H : Hp} (e : Env0 P w K mg base A outer s H) (C : Addr) (us : List Value) (kw : List (Str × Value)) :
  Env0 P w K mg base (A.under (.builtin "type.__call__" ⟨.ref C :: us, kw⟩)) outer s H := ⟨by first | exact e.frames | (simpa [Around.under, Code.envs, Code.isFrame, pushEnvs] using e.frames), e.mod, e.bs, e.bsz, e.funs, e.frf, e.hok, e.bare⟩
section
variable {X : Cx} {pins : List (Addr × Obj)} {σ : St} {H : Hp} {s s' : Shared}
theorem Inv.env0 (I : Inv X pins σ H s) : Env0 X.prog X.w X.K X.mg X.base X.A X.stack s H :=
 ⟨I.ok.frames, I.ok.mod, I.bs, Nat.le_trans I.ok.bsz I.sz, I.stack, I.stkFree, I.hok, I.bare⟩
theorem Inv.after {Q : VK} {u : Value} (I : Inv X pins σ H s) (h : CE X.stack X.prog X.w H s Q u s') : EP X pins σ Q u s' := by
 obtain ⟨v, H', os, bare, un, hok, r, q⟩ := h
 obtain ⟨hh, g, d, t, os'⟩ := s'
 obtain rfl : os' = s.os := os
 exact ⟨v, H', I.call (h' := hh) (g' := g) (d' := d) (t' := t) (ch := []) un hok bare (fun b z => absurd z (by simp)), r, q⟩
end
noncomputable def tCall (sp : Sp) (dvs : List V) (E : XK) (t : TA) : TE := fun σ H Q => t σ H fun vs H1 => sp (vs ++ dvs) H1 Q E
noncomputable def tMake (C : Addr) (sp : Sp) (dvs : List V) (E : XK) (t : TA) : TE := fun σ H Q => t σ H fun vs H1 => ∀ x dx, H1 x = none → H1 dx = none → dx ≠ x →
 sp (.ref x :: (vs ++ dvs)) (upd (upd H1 dx (.own x)) x (.ins C dx [])) (fun v H2 => v = .non ∧ Q (.ref x) H2) E
noncomputable def Binds (K : PySem.W.Frag) (fd : FuncData) (ps : List Str) (ds : List Value) : Prop :=
 ∀ (s : Shared) (us : List Value), K.In s.heap → (us ++ ds).length = ps.length → BindsTo s fd ⟨us, []⟩ (ps.zip (us ++ ds))
theorem Binds.all {K : PySem.W.Frag} {fd : FuncData} {ps : List Str} (h : ∀ us : List Value, us.length = ps.length → bindArgs fd ⟨us, []⟩ = pure (ps.zip us)) : Binds K fd ps [] := fun s us _ hl => by
 rw [List.append_nil] at hl ⊢
 exact .of_eq (h us hl)
noncomputable def Passes (CX : CXT) (X : Cx) (E : XK) : Prop := ∀ (pins : List (Addr × Obj)) (σ : St) (H : Hp) (s : Shared) (e : Value) (s' : Shared), Inv X pins σ H s → CX X.stack H s E e s' → X.xe e s'
section
variable {X : Cx} {CX : CXT} {k : Nat} {f C : Addr} {fd : FuncData} {ps : List Str} {sp : Sp} {dvs : List V} {ds : List Value} {E : XK} {x m : Str} {p pos apos : Pos} {e o : Expr} {es : List Expr} {ta : TE} {t : TA}
theorem run_fn {pins : List (Addr × Obj)} {σ : St} {H : Hp} {s : Shared} {Q : VK} {us : List Value} {vs : List V} (F : FnOk X.prog X.w X.K X.mg X.base CX k f fd ps sp) (hr : Room k X.A) (hb : Binds X.K fd ps ds) (hd : Vals dvs ds) (hx : Passes CX X E)
  (I : Inv X pins σ H s) (r : Vals vs us) (h : sp (vs ++ dvs) H Q E) : wpAny (model X.prog X.w) X.A (call (.ref f) us) (EP X pins σ Q) X.xe s := by
 have r2 : Vals (vs ++ dvs) (us ++ ds) := r.append hd
 have hl : (us ++ ds).length = ps.length := by rw [← r2.length]; exact F.len _ _ _ _ h
 refine wpAny_call (codeAny_mono (F.run X.A X.stack s H ⟨us, []⟩ (us ++ ds) (vs ++ dvs) Q E hr I.env0 (hb s us I.kIn hl) r2 h) fun r s' hq => ?_)
 cases r with
 | error e => exact hx pins σ H s e s' I hq
 | ok fl =>
  cases fl with
  | ret u => exact I.after hq
  | next => exact False.elim hq
  | brk => exact False.elim hq
  | cont => exact False.elim hq
theorem pe_call (F : FnOk X.prog X.w X.K X.mg X.base CX k f fd ps sp) (hr : Room k X.A) (hg : Gl X x) (hm : X.mg x = some (.ref f)) (hk : PySem.W.keepIn X.K (.ref f) = true) (hb : Binds X.K fd ps ds) (hd : Vals dvs ds) (hx : Passes CX X E)
  (ha : PA X (e :: es) t) (hdb : (x == ("__debug__" : Str)) = false := by decide) (he : starEach (e :: es) X.env = (false, eval e X.env) :: starEach es X.env := by rfl) (hpl : (backTo pos (starEach es X.env)).any (·.1) = false := by rfl) :
  PE X (.Call (.Name x p) (e :: es) [] pos) (tCall sp dvs E t) := by
 intro pins s σ H Q I h
 refine wpAny_Call_Name_kw (ld_glob I hg hm ?_ hdb)
 refine PySem.W.callWith_K (h₀ := X.base) I.ok.mod.kin hk (thn (ha pos pins s σ H _ I h) fun us s1 ⟨vs, H1, I1, r, q⟩ => ⟨I1.kIn, ?_⟩) he hpl
 exact run_fn F hr hb hd hx I1 r q
structure Mk (K : PySem.W.Frag) (C f : Addr) : Prop where
 makes : PySem.W.makesIn K C = true
 init : PySem.W.findIn K (.ref C) "__init__" = some (some (.ref f))
 fn : PySem.W.isFn K (.ref f) = true
 kp : PySem.W.keepIn K (.ref C) = true
theorem run_make {pins : List (Addr × Obj)} {σ : St} {H : Hp} {s : Shared} {Q : VK} {us : List Value} {vs : List V} (M : Mk X.K C f) (F : FnOk X.prog X.w X.K X.mg X.base CX k f fd ps sp) (hr : Room (k + 1) X.A) (hb : Binds X.K fd ps ds) (hd : Vals dvs ds)
  (hx : Passes CX X E) (I : Inv X pins σ H s) (r : Vals vs us)
  (h : ∀ x dx, H x = none → H dx = none → dx ≠ x → sp (.ref x :: (vs ++ dvs)) (upd (upd H dx (.own x)) x (.ins C dx [])) (fun v H2 => v = .non ∧ Q (.ref x) H2) E) :
  wpAny (model X.prog X.w) X.A (call (.ref C) us) (EP X pins σ Q) X.xe s := by
 have hq := h (s.heap.objs.size + 1) s.heap.objs.size (I.hok.fresh (Nat.le_succ _)) (I.hok.fresh (Nat.le_refl _)) (Nat.ne_of_lt (Nat.lt_succ_self _))
 have I2 := Inv.made (C := C) I
 have r2 : Vals (V.ref (s.heap.objs.size + 1) :: (vs ++ dvs)) (Value.ref (s.heap.objs.size + 1) :: (us ++ ds)) := .cons rfl (r.append hd)
 have hl : (Value.ref (s.heap.objs.size + 1) :: us ++ ds).length = ps.length := by
  have e := r2.length
  rw [F.len _ _ _ _ hq] at e
  exact e.symm
 refine wpAny_call (make_map (f := f) I.kIn M.makes M.init (beq_iff_eq.mp M.fn) (codeAny_mono (F.run _ X.stack _ _ ⟨Value.ref (s.heap.objs.size + 1) :: us, []⟩ (Value.ref (s.heap.objs.size + 1) :: (us ++ ds)) _ _ E (hr.make C us [])
  (I2.env0.make C us []) (hb _ (Value.ref (s.heap.objs.size + 1) :: us) I2.kIn hl) r2 hq) fun r s' hq' => ?_))
 cases r with
 | error e => exact hx pins σ _ _ e s' I2 hq'
 | ok fl =>
  cases fl with
  | ret u =>
   obtain ⟨v, H', I3, rv, ev, q3⟩ := I2.after hq'
   subst ev
   exact ⟨rv, ⟨V.ref (s.heap.objs.size + 1), H', I3, rfl, q3⟩⟩
  | next => exact False.elim hq'
  | brk => exact False.elim hq'
  | cont => exact False.elim hq'
theorem pe_make (M : Mk X.K C f) (F : FnOk X.prog X.w X.K X.mg X.base CX k f fd ps sp) (hr : Room (k + 1) X.A) (hg : Gl X x) (hm : X.mg x = some (.ref C)) (hb : Binds X.K fd ps ds) (hd : Vals dvs ds) (hx : Passes CX X E)
  (ha : PA X (e :: es) t) (hdb : (x == ("__debug__" : Str)) = false := by decide) (he : starEach (e :: es) X.env = (false, eval e X.env) :: starEach es X.env := by rfl) (hpl : (backTo pos (starEach es X.env)).any (·.1) = false := by rfl) :
  PE X (.Call (.Name x p) (e :: es) [] pos) (tMake C sp dvs E t) := by
 intro pins s σ H Q I h
 refine wpAny_Call_Name_kw (ld_glob I hg hm ?_ hdb)
 refine PySem.W.callWith_K (h₀ := X.base) I.ok.mod.kin M.kp (thn (ha pos pins s σ H _ I h) fun us s1 ⟨vs, H1, I1, r, q⟩ => ⟨I1.kIn, ?_⟩) he hpl
 exact run_make M F hr hb hd hx I1 r q
end
section
variable {X : Cx} {CX : CXT} {k : Nat} {f C : Addr} {fd : FuncData} {ps ks : List Str} {sp : Sp} {E : XK} {x m : Str} {p pos apos kpos : Pos} {e o : Expr} {es : List Expr} {kws : List Keyword} {te ta : TE} {t tk : TA} {nm : Option Str}
variable {g : List Value → List Value → List Value} {gV : List V → List V → List V}
end
structure FnScope (N P : List Str) (sc : Scope) : Prop where
 kind : sc.kind = .function
 co : sc.isCoroutine = false
 gen : sc.isGenerator = false
 nd : N.Nodup
 pre : N.take P.length = P
 par : ∀ x ∈ P, sc.names.lookup x = some .local ∨ sc.names.lookup x = some .cell
 nofree : ∀ y ∈ sc.names, y.2 ≠ .free
theorem bindL_out {kindOf : Str → Option NameKind} {x : Str} : ∀ {binds : List (Str × Value)} {m : Str → Option Value}, (∀ v, (x, v) ∉ binds) → bindL kindOf binds m x = m x
 | [], _, _ => rfl
 | (n, v) :: r, m, h => by
  unfold bindL
  rw [bindL_out fun w hw => h w (List.mem_cons_of_mem _ hw)]
  split
  ·have : x ≠ n := by rintro rfl; exact h v List.mem_cons_self
   simp [this]
  ·rfl
theorem bindC_out {kindOf : Str → Option NameKind} {x : Str} : ∀ {binds : List (Str × Value)} {m : Str → Option Value}, (∀ v, (x, v) ∉ binds) → bindC kindOf binds m x = m x
 | [], _, _ => rfl
 | (n, v) :: r, m, h => by
  unfold bindC
  rw [bindC_out fun w hw => h w (List.mem_cons_of_mem _ hw)]
  split
  ·rfl
  ·have : x ≠ n := by rintro rfl; exact h v List.mem_cons_self
   simp [this]
theorem bindL_get {kindOf : Str → Option NameKind} {x : Str} {v : Value} : ∀ {P : List Str} {vs : List Value} {i : Nat} {m : Str → Option Value}, P.Nodup → P[i]? = some x → vs[i]? = some v → kindOf x = some .local →
  bindL kindOf (P.zip vs) m x = some v
 | [], _, _, _, _, h, _, _ => by simp at h
 | _ :: _, [], _, _, _, _, h, _ => by simp at h
 | p :: P, w :: vs, 0, m, nd, h1, h2, hk => by
  simp at h1 h2; subst h1; subst h2
  show bindL kindOf ((p, w) :: P.zip vs) m p = _
  unfold bindL
  rw [bindL_out fun v hv => (List.nodup_cons.mp nd).1 (List.of_mem_zip hv).1, if_pos hk]
  simp
 | p :: P, w :: vs, i + 1, m, nd, h1, h2, hk => by
  show bindL kindOf ((p, w) :: P.zip vs) m x = _
  unfold bindL
  exact bindL_get (i := i) (List.nodup_cons.mp nd).2 (by simpa using h1) (by simpa using h2) hk
theorem bindC_get {kindOf : Str → Option NameKind} {x : Str} {v : Value} : ∀ {P : List Str} {vs : List Value} {i : Nat} {m : Str → Option Value}, P.Nodup → P[i]? = some x → vs[i]? = some v → kindOf x ≠ some .local →
  bindC kindOf (P.zip vs) m x = some v
 | [], _, _, _, _, h, _, _ => by simp at h
 | _ :: _, [], _, _, _, _, h, _ => by simp at h
 | p :: P, w :: vs, 0, m, nd, h1, h2, hk => by
  simp at h1 h2; subst h1; subst h2
  show bindC kindOf ((p, w) :: P.zip vs) m p = _
  unfold bindC
  rw [bindC_out fun v hv => (List.nodup_cons.mp nd).1 (List.of_mem_zip hv).1, if_neg hk]
  simp
 | p :: P, w :: vs, i + 1, m, nd, h1, h2, hk => by
  show bindC kindOf ((p, w) :: P.zip vs) m x = _
  unfold bindC
  exact bindC_get (i := i) (List.nodup_cons.mp nd).2 (by simpa using h1) (by simpa using h2) hk
noncomputable def start (N : List Str) (vs : List V) : St := vs.map some ++ List.replicate (N.length - vs.length) none
noncomputable def cxOf (CX : CXT) (P : Program) (w : World) (K : PySem.W.Frag) (mg : Str → Option Value) (base : Heap) (N : List Str) (qual : Str) (scope : Scope) (f : Addr) (cd : Value) (A : Around) (outer : List Env) (s : Shared) (H : Hp) (E : XK) : Cx where
 prog := P
 w := w
 K := K
 mg := mg
 base := base
 A := A.deeper (envOfC qual scope s.heap.objs.size f cd)
 N := N
 s₀ := s
 H₀ := H
 env := envOfC qual scope s.heap.objs.size f cd
 outer := outer
 stack := envOfC qual scope s.heap.objs.size f cd :: outer
 ex := []
 calm := true
 fn := fun _ => true
 pn := []
 xe := fun e s' => wpAny (model P w) (A.deeper (envOfC qual scope s.heap.objs.size f cd)) (leaving (envOfC qual scope s.heap.objs.size f cd) e) (fun _ s'' => CX outer H s E e s'') (fun e' s'' => CX outer H s E e' s'') s'
theorem cell_has {sc : Scope} {n : Nat} {x : Str} (h : sc.names.lookup x = some .cell) : ∃ c, (cellsFrom n sc.names []).lookup x = some c := by
 have q := PySem.W.cellsFrom_some sc.names n [] (.inl h)
 exact Option.isSome_iff_exists.mp q
theorem inv_start {CX : CXT} {P : Program} {w : World} {K : PySem.W.Frag} {mg : Str → Option Value} {base : Heap} {N ps : List Str} {qual : Str} {scope : Scope} {f : Addr} {cd : Value} {A : Around} {outer : List Env} {s s1 : Shared} {H : Hp} {E : XK} {us : List Value} {vs : List V}
  (S : FnScope N ps scope) (hd : A.handled = none) (e0 : Env0 P w K mg base A outer s H) (hl : vs.length = ps.length) (r : Vals vs us)
  (x : InCallC s s.heap.objs.size (bindL (envOfC qual scope s.heap.objs.size f cd).kindOf (ps.zip us) fun _ => none) (cellsFrom (s.heap.objs.size + 1) scope.names []) (bindC (envOfC qual scope s.heap.objs.size f cd).kindOf (ps.zip us) fun _ => none) s1) :
  Inv (cxOf CX P w K mg base N qual scope f cd A outer s H E) [] (start N vs) H s1 := by
 have hpl : ps.length ≤ N.length := by have := congrArg List.length S.pre; rw [List.length_take] at this; omega
 obtain ⟨h1, tk, rfl, hk⟩ := x.done
 have noA : ∀ b : Addr, b ∉ (cxOf CX P w K mg base N qual scope f cd A outer s H E).ex := fun b z => absurd (show b ∈ ([] : List Addr) from z) (by simp)
 refine ⟨⟨e0.mod, S.kind, rfl, rfl, Nat.le_refl _, fun y z c h1 h2 => ?_, fun y hy => ?_, fun y c _ h => ?_, fun _ => hd, Around.frames_deeper e0.frames, .inr ⟨rfl, rfl⟩, fun b z => absurd z (noA b), e0.bs, e0.bsz, fun b _ _ => noA b, fun b z => absurd z (noA b), e0.funs, e0.frf⟩,
  rfl, e0.bare, Un.kept hk, ⟨_, x.toInCall.ns, fun i y v h1 h2 h3 => ?_⟩, fun y c h => ⟨_, x.cell y c h⟩, e0.hok.fresh (Nat.le_refl _), fun y c h => ?_, fun p hp => absurd (show p ∈ ([] : List (Addr × Obj)) from hp) (by simp), e0.hok.kept hk, ?_⟩
 ·exact name_of_addr x.apart (PySem.mem_of_lookup h1) (PySem.mem_of_lookup h2)
 ·have hy : scope.names.lookup y = some .cell ∨ scope.names.lookup y = some .free := hy
  rcases hy with hy | hy
  ·exact cell_has hy
  ·exact absurd rfl (S.nofree _ (PySem.mem_of_lookup hy))
 ·exact Nat.le_of_lt (x.above y c (PySem.mem_of_lookup h))
 ·have hi : i < vs.length := by
   unfold start at h2
   by_cases hi : i < vs.length
   ·exact hi
   ·rw [List.getElem?_append_right (by simpa using hi)] at h2
    rw [List.getElem?_replicate] at h2
    split at h2 <;> cases h2
  have ha : vs[i]? = some v := by
   unfold start at h2
   rw [List.getElem?_append_left (by simpa using hi), List.getElem?_map] at h2
   cases e : vs[i]? with
   | none => rw [e] at h2; cases h2
   | some a => rw [e] at h2; cases h2; rfl
  obtain ⟨u, hu, rv⟩ := r.get ha
  have hp : ps[i]? = some y := by
   rw [← S.pre, List.getElem?_take_of_lt (by omega)]; exact h1
  have ndP : ps.Nodup := by rw [← S.pre]; exact S.nd.sublist (List.take_sublist _ _)
  refine ⟨u, rv, ?_⟩
  rcases S.par y (List.mem_of_getElem? hp) with k | k
  ·exact .inl ⟨k, bindL_get ndP hp hu k⟩
  ·obtain ⟨c, e⟩ := cell_has (n := s.heap.objs.size + 1) k
   refine .inr ⟨.inl k, c, e, ?_⟩
   have q := x.cell y c e
   rw [bindC_get ndP hp hu (by show scope.names.lookup y ≠ _; rw [k]; decide)] at q
   exact q
 ·exact e0.hok.fresh (Nat.le_of_lt (x.above y c (PySem.mem_of_lookup h)))
 ·unfold start
  show _ = N.length
  rw [List.length_append, List.length_map, List.length_replicate]
  omega
theorem fn_of {CX : CXT} {P : Program} {w : World} {K : PySem.W.Frag} {mg : Str → Option Value} {base : Heap} {k : Nat} {f : Addr} {name qual : Str} {params : Arguments} {body : List Stmt} {scope : Scope} {dV kV doc pm cdv ct oc : Value} {an od : Option Addr}
  {osl : Array (Option Value)} {N ps : List Str} {sp : Sp} (lk : K.lookup f = some ⟨oc, od, .func (PySem.W.fnOf name qual params body scope dV kV doc pm an cdv ct), osl⟩) (hcd : PySem.W.codeIn K cdv qual = true) (S : FnScope N ps scope)
  (len : ∀ vs H Q E, sp vs H Q E → vs.length = ps.length)
  (hbody : ∀ (A : Around) (outer : List Env) (s : Shared) (H : Hp) (vs : List V) (Q : VK) (E : XK), Room k (A.deeper (envOfC qual scope s.heap.objs.size f cdv)) → sp vs H Q E →
   ∃ t, PSs (cxOf CX P w K mg base N qual scope f cdv A outer s H E) body t ∧ t { nx := fun _ H' => Q .non H', rt := Q } (start N vs) H) :
  FnOk P w K mg base CX (k + 1) f (PySem.W.fnOf name qual params body scope dV kV doc pm an cdv ct) ps sp := by
 refine ⟨len, fun A outer s H args us vs Q E hr e0 hb r hsp => ?_⟩
 have hl := len _ _ _ _ hsp
 have KX : K.In s.heap := e0.mod.kin.keeps fun b o e => (e0.bs b o e).1
 have lim : s.heap.NoLimit := e0.mod.nolimit.keeps fun b o e => (e0.bs b o e).1
 have hkind : ∀ y ∈ ps.zip us, scope.names.lookup y.1 = some .local ∨ (scope.names.lookup y.1 = some .cell ∧ ((cellsFrom (s.heap.objs.size + 1) scope.names []).lookup y.1).isSome = true) := fun ⟨n, v⟩ hy => by
  rcases S.par n (List.of_mem_zip hy).1 with q | q
  ·exact .inl q
  ·exact .inr ⟨q, PySem.W.cellsFrom_some _ _ _ (.inl q)⟩
 refine codeAny_call_function hr.depth (KX _ _ lk) rfl S.co S.gen rfl (PySem.W.codeRec_of KX hcd) (hb _ _ _ _ ?_)
 refine wpAny_newFunctionEnv_cells S.kind hkind fun env he s1 x => ?_
 subst he
 refine ⟨lim.keeps x.toInCall.keep, codeAny_func ?_⟩
 obtain ⟨t, ht, hq⟩ := hbody A outer s H vs Q E (hr.deeper _) hsp
 have I : Inv (cxOf CX P w K mg base N qual scope f cdv A outer s H E) [] (start N vs) H s1 := inv_start S hr.hd e0 hl r x
 refine wpAny_mono (ht [] s1 (start N vs) H _ I hq) (fun fl s' hs => ?_) fun e s' hs => hs
 have fin : ∀ {σ' : St} {H' : Hp} {v : V} {u : Value}, Inv (cxOf CX P w K mg base N qual scope f cdv A outer s H E) [] σ' H' s' → RelV v u → Q v H' → CE outer P w H s Q u s' :=
  fun {σ' H' v u} J rv q => ⟨v, H', J.os, J.bare, J.base, J.hok, rv, q⟩
 cases fl with
 | ret u =>
  obtain ⟨v, σ', H', J, rv, q⟩ := hs
  exact fin J rv q
 | next =>
  obtain ⟨σ', H', J, q⟩ := hs
  exact fin (v := V.non) (u := Value.none) J rfl q
 | brk =>
  obtain ⟨_, _, _, q⟩ := hs
  exact False.elim q
 | cont =>
  obtain ⟨_, _, _, q⟩ := hs
  exact False.elim q
end L2
namespace L2
open PySem PySem.Spec PyProof.Rows
section
variable {X : Cx} {x : Str} {p pos : Pos} {e : Expr} {es : List Expr} {t : TA} {id T : String} {r : List V → Hp → VK → Prop}
noncomputable def tCB (r : List V → Hp → VK → Prop) (t : TA) : TE := fun σ H Q => t σ H fun vs H1 => r vs H1 Q
theorem pe_callB (hc : CallR X (.builtin id) r) (hg : Gl X x) (hm : X.mg x = none) (hv : bootBuiltins x = some (.builtin id)) (ha : PA X (e :: es) t) (hn : x ≠ "__name__" := by decide) (hdb : (x == ("__debug__" : Str)) = false := by decide)
  (he : starEach (e :: es) X.env = (false, eval e X.env) :: starEach es X.env := by rfl) (hpl : (backTo pos (starEach es X.env)).any (·.1) = false := by rfl) : PE X (.Call (.Name x p) (e :: es) [] pos) (tCB r t) := by
 intro pins s σ H Q I h
 refine wpAny_Call_Name_kw (ld_blt I hg hm hv ?_ hn hdb)
 exact PyProof.Rows.callWith_builtin1 (thn (ha pos pins s σ H _ I h) fun us s1 ⟨vs, H1, I1, r1, q1⟩ => hc pins s1 σ H1 vs us Q I1 r1 q1) he hpl
theorem pe_callTy (hc : CallR X (.type T) r) (hg : Gl X x) (hm : X.mg x = none) (hv : bootBuiltins x = some (.type T)) (ha : PA X (e :: es) t) (hn : x ≠ "__name__" := by decide) (hdb : (x == ("__debug__" : Str)) = false := by decide)
  (he : starEach (e :: es) X.env = (false, eval e X.env) :: starEach es X.env := by rfl) (hpl : (backTo pos (starEach es X.env)).any (·.1) = false := by rfl) : PE X (.Call (.Name x p) (e :: es) [] pos) (tCB r t) := by
 intro pins s σ H Q I h
 refine wpAny_Call_Name_kw (ld_blt I hg hm hv ?_ hn hdb)
 exact PyProof.Rows.callWith_type1 (thn (ha pos pins s σ H _ I h) fun us s1 ⟨vs, H1, I1, r1, q1⟩ => hc pins s1 σ H1 vs us Q I1 r1 q1) he hpl
end
end L2
namespace HT
open PySem PyProof.Rows
section
open PySem.SeqAt
open PySem.AutoSeq1 (wpAny_loadPart')
open PySem.MeetsSeq PySem.MeetsSeq2 PySem.MeetsSeq3
end
section
variable {prog : Program} {w : World} {A : Around} {E : Value → Shared → Prop} {s : Shared}
theorem cat_tup {t b : Addr} {vs ws : List Value} {Q : Value → Shared → Prop} (ht : IsTup s.heap t vs.toArray) (hb : IsTup s.heap b ws.toArray) (hv : vs ≠ [])
  (h1 : ws = [] → Q (.ref t) s) (h2 : ws ≠ [] → Q (.ref s.heap.objs.size) { s with heap := s.heap.push { cls := .type "tuple", data := .seq (vs ++ ws).toArray } })
  (hsz : vs.length + ws.length ≤ sizeLine) : wpAny (model prog w) A (binaryOp .Add (.ref t) (.ref b)) Q E s := by
 obtain ⟨⟨cls, dd, data, sl⟩, ho, hc, n, hd⟩ := id ht
 obtain ⟨⟨cls2, dd2, data2, sl2⟩, ho2, hc2, n2, hd2⟩ := id hb
 simp only at hc hd hc2 hd2
 subst hc hd hc2 hd2
 have e : vs.toArray ++ ws.toArray = (vs ++ ws).toArray := by simp
 by_cases hw : ws = []
 ·exact concat_meets ⟨_, ho, rfl⟩ ⟨_, ho2, rfl⟩ noFill_tuple_add seq_tuple_add PySem.F.slot_tuple_add PySem.F.entry_tuple_add (PySem.F.args_tuple_add_2 _ _)
   (tuple_addW1 t b vs.toArray ws.toArray n n2 dd dd2 sl sl2 (by simpa using hv) (by simp [hw])) ⟨ho, ho2, h1 hw⟩
 ·refine concat_meets ⟨_, ho, rfl⟩ ⟨_, ho2, rfl⟩ noFill_tuple_add seq_tuple_add PySem.F.slot_tuple_add PySem.F.entry_tuple_add (PySem.F.args_tuple_add_2 _ _)
   (tuple_addW2 t b vs.toArray ws.toArray n n2 dd dd2 sl sl2 (by simpa using hv) (by simpa using hw) (by rw [List.size_toArray, List.size_toArray]; exact hsz)) ⟨ho, ho2, ?_⟩
  rw [e]
  exact h2 hw
noncomputable def sIx (n d : Nat) : Option Int → Nat
 | none => d
 | some v => if v < 0 then (v + (n : Int)).toNat else min v.toNat n
theorem sIx_nat (n d k : Nat) : sIx n d (some (k : Int)) = min k n := by
 show (if (k : Int) < 0 then ((k : Int) + (n : Int)).toNat else min (k : Int).toNat n) = min k n
 rw [if_neg (by omega), Int.toNat_natCast]
theorem sIx_le (n d : Nat) (hd : d ≤ n) (o : Option Int) : sIx n d o ≤ n := by
 cases o with
 | none => exact hd
 | some v =>
  show (if v < 0 then (v + (n : Int)).toNat else min v.toNat n) ≤ n
  by_cases hv : v < 0
  ·rw [if_pos hv]; omega
  ·rw [if_neg hv]; exact Nat.min_le_right _ _
theorem clip_eq (v : Int) (n d : Nat) : (if v < 0 then max (v + (n : Int)) 0 else min v (n : Int)) = ((sIx n d (some v) : Nat) : Int) := by
 show (if v < 0 then max (v + (n : Int)) 0 else min v (n : Int)) = (((if v < 0 then (v + (n : Int)).toNat else min v.toNat n) : Nat) : Int)
 by_cases hv : v < 0
 ·simp only [if_pos hv]; omega
 ·simp only [if_neg hv]; omega
theorem adjust_gen (lo hi : Option Int) (n : Nat) : Builtin.Slice.sliceAdjust lo hi 1 (n : Int) = (((sIx n 0 lo : Nat) : Int), ((sIx n n hi : Nat) : Int)) := by
 have h1 : ¬ ((1 : Int) < 0) := by omega
 unfold Builtin.Slice.sliceAdjust
 simp only [h1, if_false]
 refine Prod.ext ?_ ?_
 ·cases lo with
  | none => rfl
  | some v => exact clip_eq v n 0
 ·cases hi with
  | none => rfl
  | some v => exact clip_eq v n n
theorem places_gen (i j : Nat) : Builtin.Slice.slicePlaces (i : Int) (j : Int) 1 = j - i := by
 unfold Builtin.Slice.slicePlaces
 have h1 : (1 : Int) > 0 := by omega
 simp only [h1, if_true, Int.ediv_one]
 split <;> omega
theorem slicePart_ {v : Value} {o : Option Int} {Q : Option Int → Shared → Prop} (p : IsPart v o) (h : Q o s) : wpAny (model prog w) A (Builtin.Slice.slicePartIndex v) Q E s := by
 cases p with
 | none => exact slicePart_none h
 | int i t => exact slicePart_int h
theorem sliceApplied_gen {sl : Addr} {vl vu : Value} {lo hi : Option Int} {n : Nat} {Q : Int × Int × Nat → Shared → Prop} (hs : s.heap.IsSliceOf sl vl vu .none) (pl : IsPart vl lo) (pu : IsPart vu hi)
  (h : Q (((sIx n 0 lo : Nat) : Int), 1, sIx n n hi - sIx n 0 lo) s) : wpAny (model prog w) A (Builtin.Slice.sliceApplied (.ref sl) (pure (n : Int))) Q E s := by
 obtain ⟨os, hos, hcs, hds⟩ := id hs
 unfold Builtin.Slice.sliceApplied Builtin.Slice.sliceFields
 refine wpAny_bind (wpAny_bind (wpAny_field hos hds (x := vl) rfl (wpAny_bind (wpAny_field hos hds (x := vu) rfl (wpAny_bind (wpAny_field hos hds (x := .none) rfl (wpAny_pure ?_)))))))
 refine wpAny_bind (slicePart_none ?_)
 show wpAny _ _ (if ((1 : Int) == 0) = true then _ else _) _ _ s
 rw [if_neg (by decide)]
 refine wpAny_bind (slicePart_ pl (wpAny_bind (slicePart_ pu (wpAny_bind (wpAny_pure ?_)))))
 show wpAny _ _ (match Builtin.Slice.sliceAdjust lo hi 1 (n : Int) with | (lo, hi) => pure (lo, (1 : Int), Builtin.Slice.slicePlaces lo hi 1)) _ _ s
 rw [adjust_gen lo hi n]
 show wpAny _ _ (pure (((sIx n 0 lo : Nat) : Int), (1 : Int), Builtin.Slice.slicePlaces ((sIx n 0 lo : Nat) : Int) ((sIx n n hi : Nat) : Int) 1)) _ _ s
 rw [places_gen]
 exact wpAny_pure h
theorem pick_gen (xs : Array Value) (i k : Nat) : ((List.range k).filterMap fun (m : Nat) => xs[((i : Int) + (m : Int) * 1).toNat]?).toArray = ((xs.toList.drop i).take k).toArray := by
 have e : (fun (m : Nat) => xs[((i : Int) + (m : Int) * 1).toNat]?) = fun m => xs[i + m]? := by
  funext m
  have : ((i : Int) + (m : Int) * 1).toNat = i + m := by omega
  rw [this]
 rw [e]
 have := pick_run xs i k
 rw [List.filterMap_map] at this
 have e2 : ((fun x => xs[x]?) ∘ fun x => i + x) = fun m => xs[i + m]? := rfl
 rw [e2] at this
 rw [this]
theorem getItem_tuple_cut {t sl : Addr} {items : Array Value} {vl vu : Value} {lo hi : Option Int} {Q : Value → Shared → Prop} (ht : IsTup s.heap t items) (hs : s.heap.IsSliceOf sl vl vu .none) (pl : IsPart vl lo) (pu : IsPart vu hi)
  (hw : ¬ (sIx items.size 0 lo = 0 ∧ sIx items.size items.size hi = items.size))
  (h : Q (.ref s.heap.objs.size) { s with heap := s.heap.push { cls := .type "tuple", data := .seq ((items.toList.drop (sIx items.size 0 lo)).take (sIx items.size items.size hi - sIx items.size 0 lo)).toArray } })
  (hsz : items.size ≤ sizeLine) : wpAny (model prog w) A (getItem (.ref t) (.ref sl)) Q E s := by
 have htake : sizeOk (.seq ((items.toList.drop (sIx items.size 0 lo)).take (sIx items.size items.size hi - sIx items.size 0 lo)).toArray) := by
  show ((items.toList.drop (sIx items.size 0 lo)).take (sIx items.size items.size hi - sIx items.size 0 lo)).toArray.size ≤ sizeLine
  rw [List.size_toArray, List.length_take, List.length_drop, Array.length_toList]
  omega
 have hj : sIx items.size items.size hi ≤ items.size := sIx_le _ _ (Nat.le_refl _) hi
 obtain ⟨os, hos, hcs, hds⟩ := id hs
 have hTs : s.TypeIs (.ref sl) "slice" := ⟨os, hos, hcs⟩
 unfold getItem
 try with_reducible refine wpAny_holding ?_
 first | refine wpAny_bind (wpAny_pure ?_) | skip
 refine wpAny_bind (wpAny_sequenceKey ht.typeIs (by decide) ?_)
 refine wpAny_bind (wpAny_callSpecial?_slot (name := Str.ofString "__getitem__") ht.typeIs PyProof.Rows.slot_tuple_getitem
  (wpAny_call_entry PyProof.Rows.slot_tuple_getitem ht.typeIs entry_tuple_getitem ?_ (args_tuple_getitem _ _)))
 show wpAny _ _ (Builtin.Tuple.tupleItemsOf (.ref t) >>= _) _ _ s
 refine wpAny_bind (tupleItemsOf_ ht ?_)
 refine wpAny_bind (wpAny_typeOf hTs ?_)
 rw [if_pos (by decide)]
 refine wpAny_bind (sliceApplied_gen hs pl pu ?_)
 have hno : ¬ ((((sIx items.size 0 lo : Nat) : Int) == 0 && (1 : Int) == 1 && (sIx items.size items.size hi - sIx items.size 0 lo) == items.size) = true) := by
  intro q
  rw [Bool.and_eq_true, Bool.and_eq_true] at q
  have q1 : ((sIx items.size 0 lo : Nat) : Int) = 0 := eq_of_beq q.1.1
  have q2 : sIx items.size items.size hi - sIx items.size 0 lo = items.size := eq_of_beq q.2
  exact hw ⟨by omega, by omega⟩
 show wpAny _ _ (if (((sIx items.size 0 lo : Nat) : Int) == 0 && (1 : Int) == 1 && (sIx items.size items.size hi - sIx items.size 0 lo) == items.size) = true then _ else _) _ _ s
 rw [if_neg hno, pick_gen]
 first
  | exact wpAny_bind (m := Builtin.Tuple.tupleExact _) (wpAny_newObj_type (wpAny_pure ⟨_, rfl, wpAny_pure h⟩) htake)
  | exact wpAny_bind (m := Builtin.Tuple.tupleExact _) (wpAny_newObj_type (wpAny_bind (wpAny_pure (wpAny_pure ⟨_, rfl, wpAny_pure h⟩))) htake)
  | exact wpAny_bind (wpAny_bind (m := Builtin.Tuple.tupleExact _) (wpAny_newObj_type (wpAny_pure (wpAny_pure ⟨_, rfl, wpAny_pure h⟩)) htake))
  | exact wpAny_bind (wpAny_bind (m := Builtin.Tuple.tupleExact _) (wpAny_newObj_type (wpAny_pure ⟨_, rfl, wpAny_pure h⟩) htake))
end
end HT
namespace L2
open PySem PySem.Spec PyProof.Rows
noncomputable abbrev TO := St → Hp → (Option Int → Hp → Prop) → Prop
noncomputable def PO (X : Cx) (e : Option Expr) (t : TO) : Prop :=
 ∀ (pins : List (Addr × Obj)) (s : Shared) (σ : St) (H : Hp) (Q : Option Int → Hp → Prop), Inv X pins σ H s → t σ H Q →
  wpAny (model X.prog X.w) X.A (evalPart e X.env) (fun u s' => ∃ o H', Inv X pins σ H' s' ∧ IsPart u o ∧ Q o H') X.xe s
noncomputable def tNoPart : TO := fun _ H Q => Q none H
noncomputable def tPart (t : TE) : TO := fun σ H Q => t σ H fun x H1 => ∃ i, x = .int i ∧ Q (some i) H1
section
variable {X : Cx} {e : Expr} {te : TE} {lo hi : Option Expr} {tl th : TO} {pos p2 : Pos}
theorem po_some (h : PE X e te) : PO X (some e) (tPart te) := by
 intro pins s σ H Q I hw
 rw [evalPart_some]
 refine thn (h pins s σ H _ I hw) fun u s1 ⟨x, H1, I1, r1, q1⟩ => ?_
 obtain ⟨i, rfl, q⟩ := q1
 obtain ⟨t, rfl⟩ := r1
 exact ⟨some i, H1, I1, .int i t, q⟩
noncomputable def SlR (X : Cx) (r : V → Option Int → Option Int → Hp → VK → Prop) : Prop :=
 ∀ (pins : List (Addr × Obj)) (s : Shared) (σ : St) (H : Hp) (x : V) (v vl vu : Value) (lo hi : Option Int) (sl : Addr) (Q : VK), Inv X pins σ H s → RelV x v → s.heap.IsSliceOf sl vl vu .none → IsPart vl lo → IsPart vu hi → r x lo hi H Q →
  ∃ T id, typeLookup (.type T) "__getitem__" = pure (some (.builtin id)) ∧ s.TypeIs v T ∧ wpAny (model X.prog X.w) X.A (getItem v (.ref sl)) (EP X pins σ Q) X.xe s
theorem SlR.or {r r' : V → Option Int → Option Int → Hp → VK → Prop} (h : SlR X r) (h' : SlR X r') : SlR X (fun x lo hi H Q => r x lo hi H Q ∨ r' x lo hi H Q) := by
 intro pins s σ H x v vl vu lo hi sl Q I rx hs pl pu q
 rcases q with q | q
 ·exact h pins s σ H x v vl vu lo hi sl Q I rx hs pl pu q
 ·exact h' pins s σ H x v vl vu lo hi sl Q I rx hs pl pu q
noncomputable def tSl (r : V → Option Int → Option Int → Hp → VK → Prop) (te : TE) (tl th : TO) : TE := fun σ H Q => te σ H fun x H1 => tl σ H1 fun l H2 => th σ H2 fun u H3 => r x l u H3 Q
theorem pe_slice {r : V → Option Int → Option Int → Hp → VK → Prop} (hr : SlR X r) (he : PE X e te) (hl : PO X lo tl) (hu : PO X hi th) : PE X (.Subscript e (.Slice lo hi none p2) pos) (tSl r te tl th) := by
 intro pins s σ H Q I h
 refine Subscript_ (thn (he pins s σ H _ I h) fun v s1 ⟨x, H1, I1, r1, q1⟩ => ?_)
 refine wpAny_Slice (thn (hl pins s1 σ H1 _ I1 q1) fun vl s2 ⟨l, H2, I2, pl, q2⟩ => thn (hu pins s2 σ H2 _ I2 q2) fun vu s3 ⟨u, H3, I3, pu, q3⟩ => ?_)
 rw [evalPart_none]
 refine wpAny_pure ?_
 have I4 : Inv X pins σ H3 { s3 with heap := s3.heap.push { cls := .type "slice", data := .fields #[vl, vu, .none] } } := I3.kept (t' := s3.toks) fun b ob q => Heap.get?_push_of_some _ q
 obtain ⟨T, id, hT, ht, hg⟩ := hr pins { s3 with heap := s3.heap.push { cls := .type "slice", data := .fields #[vl, vu, .none] } } σ H3 x v vl vu l u s3.heap.objs.size Q I4 r1 (Heap.IsSliceOf.new ..) pl pu q3
 show wpAny (model X.prog X.w) X.A (subscriptTail e (.Slice lo hi none p2) v (.ref s3.heap.objs.size)) (EP X pins σ Q) X.xe { s3 with heap := s3.heap.push { cls := .type "slice", data := .fields #[vl, vu, .none] } }
 exact tail_any (ops := [.ref s3.heap.objs.size, v]) ht hT hg (by with_unfolding_all rfl)
noncomputable def cutV (xs : List V) (lo hi : Option Int) : List V := (xs.drop (HT.sIx xs.length 0 lo)).take (HT.sIx xs.length xs.length hi - HT.sIx xs.length 0 lo)
theorem cutV_length (xs : List V) (lo hi : Option Int) : (cutV xs lo hi).length ≤ xs.length := by
 unfold cutV
 rw [List.length_take, List.length_drop]
 omega
noncomputable def rSlT (K : PySem.W.Frag) : V → Option Int → Option Int → Hp → VK → Prop := fun x lo hi H Q => ∃ a xs, x = .ref a ∧ SqT K H a xs ∧
 ¬ (HT.sIx xs.length 0 lo = 0 ∧ HT.sIx xs.length xs.length hi = xs.length) ∧ ∀ p, H p = none → Q (.ref p) (upd H p (.tup (cutV xs lo hi)))
theorem sl_tup : SlR X (rSlT X.K) := by
 intro pins s σ H x v vl vu lo hi sl Q I rx hs pl pu h
 obtain ⟨a, xs, rfl, hx, hw, q⟩ := h
 cases rx
 obtain ⟨its, r, ht, hz⟩ := I.tuple hx
 have hlen : its.toArray.size = xs.length := by rw [List.size_toArray]; exact r.length.symm
 refine ⟨"tuple", _, PyProof.Rows.slot_tuple_getitem.lookup, ht.typeIs, ?_⟩
 refine HT.getItem_tuple_cut ht hs pl pu (by rw [hlen]; exact hw) ?_ (by rw [hlen]; exact hz)
 rw [hlen]
 refine ⟨.ref s.heap.objs.size, _, I.laid (t' := s.toks) (o := .tup (cutV xs lo hi)) (fun b ob q => Heap.get?_push_of_some _ q) (Nat.le_refl _) ?_, rfl, q _ (I.hok.fresh (Nat.le_refl _))⟩
 exact ⟨Nat.le_trans (cutV_length xs lo hi) hz, _, (r.drop (HT.sIx xs.length 0 lo)).take (HT.sIx xs.length xs.length hi - HT.sIx xs.length 0 lo), IsTup.new _ _⟩
noncomputable def rCatT (K : PySem.W.Frag) : R2 := fun x y H Q => ∃ a b xs ys, x = .ref a ∧ y = .ref b ∧ SqT K H a xs ∧ SqT K H b ys ∧ xs ≠ [] ∧ xs.length + ys.length ≤ sizeLine ∧
 (ys = [] → Q (.ref a) H) ∧ (ys ≠ [] → ∀ p, H p = none → Q (.ref p) (upd H p (.tup (xs ++ ys))))
theorem Vals.nil_iff {xs : List V} {us : List Value} (r : Vals xs us) : us = [] ↔ xs = [] := by
 cases r with
 | nil => simp
 | cons _ _ => simp
theorem op_catT : OpR X (binaryOp .Add) (rCatT X.K) := by
 intro pins s σ H x y v u Q I rx ry h
 obtain ⟨a, b, xs, ys, rfl, rfl, ha, hb, hx, hz, q1, q2⟩ := h
 cases rx
 cases ry
 obtain ⟨its, r1, p1, _⟩ := I.tuple ha
 obtain ⟨its2, r2, p2, _⟩ := I.tuple hb
 refine HT.cat_tup p1 p2 (fun z => hx (r1.nil_iff.mp z)) (fun z => ⟨.ref a, H, I, rfl, q1 (r2.nil_iff.mp z)⟩) (fun z => ?_) (by rw [← r1.length, ← r2.length]; exact hz)
 refine ⟨.ref s.heap.objs.size, _, I.laid (t' := s.toks) (o := .tup (xs ++ ys)) (fun b ob q => Heap.get?_push_of_some _ q) (Nat.le_refl _) ?_, rfl, q2 (fun w => z (r2.nil_iff.mpr w)) _ (I.hok.fresh (Nat.le_refl _))⟩
 exact ⟨by rw [List.length_append]; exact hz, _, r1.append r2, IsTup.new _ _⟩
end
end L2
namespace L2
open PySem PySem.Spec PyProof.Rows
noncomputable def ixN (n : Nat) (i : Int) : Option Nat := if 0 ≤ i then (if i < n then some i.toNat else none) else if -(n : Int) ≤ i then some (i + n).toNat else none
noncomputable def atI {α : Type} (xs : List α) (i : Int) : Option α := (ixN xs.length i).bind fun j => xs[j]?
theorem ixN_seq {n : Nat} {i : Int} {j : Nat} (h : ixN n i = some j) : seqIndex? i n = some j ∧ j < n ∧ -(n : Int) ≤ i ∧ i < n := by
 unfold ixN at h
 by_cases h0 : 0 ≤ i
 ·rw [if_pos h0] at h
  by_cases h1 : i < n
  ·rw [if_pos h1] at h
   have e : i.toNat = j := Option.some.inj h
   exact ⟨by rw [seqIndex_of h0 h1, e], by omega, by omega, h1⟩
  ·rw [if_neg h1] at h; cases h
 ·rw [if_neg h0] at h
  by_cases h1 : -(n : Int) ≤ i
  ·rw [if_pos h1] at h
   have e : (i + n).toNat = j := Option.some.inj h
   exact ⟨by rw [seqIndex_neg (by omega) h1, e], by omega, h1, by omega⟩
  ·rw [if_neg h1] at h; cases h
theorem atI_get {α : Type} {xs : List α} {i : Int} {v : α} (h : atI xs i = some v) : ∃ j, seqIndex? i xs.length = some j ∧ xs[j]? = some v ∧ j < xs.length ∧ -(xs.length : Int) ≤ i ∧ i < xs.length := by
 unfold atI at h
 cases e : ixN xs.length i with
 | none => rw [e] at h; cases h
 | some j =>
  rw [e] at h
  obtain ⟨h1, h2, h3, h4⟩ := ixN_seq e
  exact ⟨j, h1, h, h2, h3, h4⟩
theorem atI_nat {α : Type} {xs : List α} {j : Nat} {v : α} (h : xs[j]? = some v) : atI xs (j : Int) = some v := by
 have hj : j < xs.length := (List.getElem?_eq_some_iff.mp h).1
 have e : ixN xs.length (j : Int) = some j := by
  unfold ixN
  rw [if_pos (by omega), if_pos (by omega)]; simp
 unfold atI; rw [e]; exact h
theorem atI_last {α : Type} (xs : List α) (v : α) : atI (xs ++ [v]) (-1) = some v := by
 have hl : (xs ++ [v]).length = xs.length + 1 := by simp
 have e : ixN (xs ++ [v]).length (-1) = some xs.length := by
  unfold ixN
  rw [hl, if_neg (by decide), if_pos (by omega)]
  congr 1
  omega
 unfold atI
 rw [e]
 show (xs ++ [v])[xs.length]? = some v
 simp
noncomputable def PlainIx (b : Expr) : Prop := ∀ o i, subscripted b false o i = operate [o, i] (getItem o i)
noncomputable def IxR (X : Cx) (r : R2) : Prop :=
 ∀ (value slice : Expr) (pins : List (Addr × Obj)) (s : Shared) (σ : St) (H : Hp) (x y : V) (v u : Value) (Q : VK), Inv X pins σ H s → RelV x v → RelV y u → r x y H Q →
  subscripted slice false v u = operate [v, u] (getItem v u) → wpAny (model X.prog X.w) X.A (subscriptTail value slice v u) (EP X pins σ Q) X.xe s
noncomputable def MtR (X : Cx) (id : String) (r : V → List V → Hp → VK → Prop) : Prop :=
 ∀ (pins : List (Addr × Obj)) (s : Shared) (σ : St) (H : Hp) (x : V) (xs : List V) (v : Value) (us : List Value) (Q : VK), Inv X pins σ H s → RelV x v → Vals xs us → r x xs H Q →
  wpAny (model X.prog X.w) X.A (call (.builtin id) (v :: us)) (EP X pins σ Q) X.xe s
section
variable {X : Cx} {a b : Expr} {ta tb : TE} {pos : Pos}
theorem IxR.or {r r' : R2} (h : IxR X r) (h' : IxR X r') : IxR X (fun x y H Q => r x y H Q ∨ r' x y H Q) := by
 intro value slice pins s σ H x y v u Q I rx ry q hs
 rcases q with q | q
 ·exact h value slice pins s σ H x y v u Q I rx ry q hs
 ·exact h' value slice pins s σ H x y v u Q I rx ry q hs
theorem pe_ix {r : R2} (hr : IxR X r) (ha : PE X a ta) (hb : PE X b tb) (hs : PlainIx b) : PE X (.Subscript a b pos) (tOp r ta tb) := by
 intro pins s σ H Q I h
 exact Subscript_ (binT ha hb I h fun v u s2 x y H2 I2 rx ry q => hr a b pins s2 σ H2 x y v u Q I2 rx ry q (hs _ _))
noncomputable def rIxL (K : PySem.W.Frag) : R2 := fun x y H Q => ∃ p xs i v, x = .ref p ∧ y = .int i ∧ SqL K H p xs ∧ atI xs i = some v ∧ Q v H
noncomputable def rIxT (K : PySem.W.Frag) : R2 := fun x y H Q => ∃ p xs i v, x = .ref p ∧ y = .int i ∧ SqT K H p xs ∧ atI xs i = some v ∧ Q v H
noncomputable def rIxS : R2 := fun x y H Q => ∃ z i c, x = .str z ∧ y = .int i ∧ z.length ≤ sizeLine ∧ atI z.cps.toList i = some c ∧ Q (.str ⟨#[c]⟩) H
theorem ix_list : IxR X (rIxL X.K) := by
 intro value slice pins s σ H x y v u Q I rx ry h hs
 obtain ⟨p, xs, i, z, rfl, rfl, hq, he, q⟩ := h
 cases rx
 obtain ⟨t, rfl⟩ := ry
 obtain ⟨its, r, pl, hz⟩ := I.list hq
 obtain ⟨j, h1, h2, h3, h4, h5⟩ := atI_get he
 obtain ⟨w, ew, rw'⟩ := r.get h2
 have hl := r.length
 have hn := line63
 have fin : EP X pins σ Q w s := ⟨z, H, I, rw', q⟩
 by_cases h0 : 0 ≤ i
 ·have hj : i.toNat = j := by
   rw [seqIndex_of h0 h5] at h1
   exact Option.some.inj h1
  exact item_listR pl.isList h0 (by omega) (by rw [hj]; simpa using ew) fin hs
 ·have hj : (i + (its.toArray.size : Int)).toNat = j := by
   rw [seqIndex_neg (by omega) h4] at h1
   rw [List.size_toArray, ← hl]
   exact Option.some.inj h1
  exact subscriptTail_builtinR (x := w) pl.isList.typeIs slot_list_getitem.lookup
   (wpAny_getItem_list_neg (Q := fun r s' => r = w ∧ EP X pins σ Q r s') pl.isList (by omega) (by rw [List.size_toArray] <;> omega) (by omega) (by rw [hj]; simpa using ew) ⟨rfl, fin⟩) hs
theorem ix_tup : IxR X (rIxT X.K) := by
 intro value slice pins s σ H x y v u Q I rx ry h hs
 obtain ⟨p, xs, i, z, rfl, rfl, hq, he, q⟩ := h
 cases rx
 obtain ⟨t, rfl⟩ := ry
 obtain ⟨its, r, pl, hz⟩ := I.tuple hq
 obtain ⟨j, h1, h2, h3, h4, h5⟩ := atI_get he
 obtain ⟨w, ew, rw'⟩ := r.get h2
 have hl := r.length
 have hn := line63
 have fin : EP X pins σ Q w s := ⟨z, H, I, rw', q⟩
 exact subscriptTail_builtinR (x := w) pl.typeIs slot_tuple_getitem.lookup
  (getItem_tuple (j := j) (Q := fun r s' => r = w ∧ EP X pins σ Q r s') pl (by omega) (by omega) (by rw [List.size_toArray, ← hl]; exact h1) (by simpa using ew) ⟨rfl, fin⟩) hs
theorem ix_str : IxR X rIxS := by
 intro value slice pins s σ H x y v u Q I rx ry h hs
 obtain ⟨z, i, c, rfl, rfl, hz, he, q⟩ := h
 obtain ⟨t, rfl⟩ := rx
 obtain ⟨t', rfl⟩ := ry
 obtain ⟨j, h1, h2, h3, h4, h5⟩ := atI_get he
 have hl : z.cps.toList.length = z.length := by simp [Str.length]
 rw [hl] at h1 h4 h5
 have hn := line63
 exact tail_any (typeIs_str s z t) slot_str_getitem.lookup (getItem_str (c := c) (by
  have e1 : decide (i < -(2 ^ 63 : Int)) = false := decide_eq_false (by omega)
  have e2 : decide (i ≥ 2 ^ 63) = false := decide_eq_false (by omega)
  rw [e1, e2, Bool.or_false]) (by rw [h1]; simpa using h2) ⟨.str ⟨#[c]⟩, H, I.tok _, ⟨_, rfl⟩, q⟩) hs
noncomputable def rIx (K : PySem.W.Frag) : R2 := fun x y H Q => rIxL K x y H Q ∨ rIxT K x y H Q ∨ rIxS x y H Q
theorem ix_seq : IxR X (rIx X.K) := ix_list.or (ix_tup.or ix_str)
theorem slice_bounds (lo hi : Option Int) (n : Nat) : (sliceBounds lo hi none n).1 = ((HT.sIx n 0 lo : Nat) : Int) ∧ (sliceBounds lo hi none n).2.1 = ((HT.sIx n n hi : Nat) : Int) ∧ (sliceBounds lo hi none n).2.2 = 1 := by
 refine ⟨?_, ?_, rfl⟩
 ·cases lo with
  | none => simp [sliceBounds, HT.sIx]
  | some i =>
   simp only [sliceBounds, HT.sIx, Option.getD_none, show (1 : Int) > 0 by decide, if_true]
   by_cases h : i < 0
   ·simp only [h, if_true] <;> omega
   ·simp only [h, if_false] <;> omega
 ·cases hi with
  | none => simp [sliceBounds, HT.sIx]
  | some i =>
   simp only [sliceBounds, HT.sIx, Option.getD_none, show (1 : Int) > 0 by decide, if_true]
   by_cases h : i < 0
   ·simp only [h, if_true] <;> omega
   ·simp only [h, if_false] <;> omega
theorem slicePick_cut (its : List Value) (lo hi : Option Int) : slicePick its.toArray lo hi none = ((its.drop (HT.sIx its.length 0 lo)).take (HT.sIx its.length its.length hi - HT.sIx its.length 0 lo)).toArray := by
 obtain ⟨h1, h2, h3⟩ := slice_bounds lo hi its.toArray.size
 unfold slicePick
 rw [h1, h2, h3]
 simp only [sliceRange_one, pick_run, List.size_toArray] <;> rfl
noncomputable def rSlL (K : PySem.W.Frag) : V → Option Int → Option Int → Hp → VK → Prop := fun x lo hi H Q => ∃ a xs, x = .ref a ∧ SqL K H a xs ∧ ∀ p, H p = none → Q (.ref p) (upd H p (.lst (cutV xs lo hi)))
theorem sl_list : SlR X (rSlL X.K) := by
 intro pins s σ H x v vl vu lo hi sl Q I rx hs pl pu h
 obtain ⟨a, xs, rfl, hx, q⟩ := h
 cases rx
 obtain ⟨its, r, ht, hz⟩ := I.list hx
 have hlen := r.length
 refine ⟨"list", _, slot_list_getitem.lookup, ht.isList.typeIs, ?_⟩
 refine wpAny_getItem_list_slice ht.isList hs pl pu .none (by simp) ?_ (by rw [List.size_toArray] <;> omega)
 rw [slicePick_cut, ← hlen]
 refine ⟨.ref s.heap.objs.size, _, I.laid (t' := s.toks) (o := .lst (cutV xs lo hi)) (fun b ob q => Heap.get?_push_of_some _ q) (Nat.le_refl _) ?_, rfl, q _ (I.hok.fresh (Nat.le_refl _))⟩
 exact ⟨Nat.le_trans (cutV_length xs lo hi) hz, _, 0, (r.drop (HT.sIx xs.length 0 lo)).take (HT.sIx xs.length xs.length hi - HT.sIx xs.length 0 lo), Heap.get?_push_size _ rfl⟩
noncomputable def flatV : V → Bool
 | .non => true
 | .bl _ => true
 | .int _ => true
 | .str _ => true
 | _ => false
noncomputable def eqV : V → V → Bool
 | .non, .non => true
 | .bl a, .bl b => a == b
 | .bl a, .int b => (if a then 1 else 0) == b
 | .int a, .bl b => a == (if b then 1 else 0)
 | .int a, .int b => a == b
 | .str a, .str b => a == b
 | _, _ => false
noncomputable def inV (x : V) (xs : List V) : Bool := xs.any fun y => eqV y x
theorem call_len_seq : CallR X (.builtin "len") (fun xs H Q => ∃ p ys, xs = [.ref p] ∧ (SqL X.K H p ys ∨ SqT X.K H p ys) ∧ Q (.int ys.length) H) := by
 intro pins s σ H xs us Q I r h
 obtain ⟨p, ys, rfl, hq, q⟩ := h
 obtain ⟨u, rfl, rx⟩ := vals1 r
 cases rx
 have hn := line63
 rcases hq with hq | hq
 ·obtain ⟨its, r', pl, hz⟩ := I.list hq
  have hlen := r'.length
  exact Calls.call_len_list pl.isList (by simp only [List.size_toArray] <;> omega) ⟨.int ys.length, H, I.tok _, ⟨s.toks + 1, by rw [List.size_toArray, hlen]⟩, q⟩
 ·obtain ⟨its, r', pl, hz⟩ := I.tuple hq
  have hlen := r'.length
  exact len_tuple pl (by simp only [List.size_toArray] <;> omega) ⟨.int ys.length, H, I.tok _, ⟨s.toks + 1, by rw [List.size_toArray, hlen]⟩, q⟩
theorem call_len_str : CallR X (.builtin "len") (fun xs H Q => ∃ z, xs = [.str z] ∧ z.length ≤ sizeLine ∧ Q (.int z.length) H) := by
 intro pins s σ H xs us Q I r h
 obtain ⟨z, rfl, hz, q⟩ := h
 obtain ⟨u, rfl, t, rfl⟩ := vals1 r
 have hn := line63
 exact len_str (by omega) ⟨.int z.length, H, I.tok _, ⟨_, rfl⟩, q⟩
theorem CallR.or {f : Value} {r r' : List V → Hp → VK → Prop} (h : CallR X f r) (h' : CallR X f r') : CallR X f (fun xs H Q => r xs H Q ∨ r' xs H Q) := by
 intro pins s σ H xs us Q I rs q
 rcases q with q | q
 ·exact h pins s σ H xs us Q I rs q
 ·exact h' pins s σ H xs us Q I rs q
theorem call_list_of : CallR X (.type "list") (fun xs H Q => ∃ p ys, xs = [.ref p] ∧ (SqL X.K H p ys ∨ SqT X.K H p ys) ∧ ∀ l, H l = none → Q (.ref l) (upd H l (.lst ys))) := by
 intro pins s σ H xs us Q I r h
 obtain ⟨p, ys, rfl, hq, q⟩ := h
 obtain ⟨u, rfl, rx⟩ := vals1 r
 cases rx
 have fin : ∀ (its : List Value), Vals ys its → ys.length ≤ sizeLine → ∀ (h' : Heap) (c' : Nat), (∀ b o', s.heap.get? b = some o' → h'.get? b = some o') →
   h'.get? s.heap.objs.size = some { cls := .type "list", dict := none, data := .seq its.toArray c', slots := #[] } → EP X pins σ Q (.ref s.heap.objs.size) { s with heap := h' } := fun its r' hz h' c' kp e =>
  ⟨.ref s.heap.objs.size, _, I.laid (t' := s.toks) kp (Nat.le_refl _) (show ObjOk X.prog X.w _ h' _ (.lst ys) from ⟨hz, its, c', r', e⟩), rfl, q _ (I.hok.fresh (Nat.le_refl _))⟩
 rcases hq with hq | hq
 ·obtain ⟨its, r', pl, hz⟩ := I.list hq
  have hlen := r'.length
  obtain ⟨o, ho, hc, n, hd⟩ := pl.isList
  exact call_list_seq p (.inl rfl) ho hc hd (fun h' c' kp e => fin its r' hz h' c' kp e) (by simp only [List.size_toArray] <;> omega)
 ·obtain ⟨its, r', pl, hz⟩ := I.tuple hq
  have hlen := r'.length
  obtain ⟨o, ho, hc, n, hd⟩ := pl
  exact call_list_seq p (.inr rfl) ho hc hd (fun h' c' kp e => fin its r' hz h' c' kp e) (by simp only [List.size_toArray] <;> omega)
theorem call_tuple_of : CallR X (.type "tuple") (fun xs H Q => ∃ p ys, xs = [.ref p] ∧ ((SqL X.K H p ys ∧ ∀ l, H l = none → Q (.ref l) (upd H l (.tup ys))) ∨ (SqT X.K H p ys ∧ Q (.ref p) H))) := by
 intro pins s σ H xs us Q I r h
 obtain ⟨p, ys, rfl, h⟩ := h
 obtain ⟨u, rfl, rx⟩ := vals1 r
 cases rx
 rcases h with ⟨hq, q⟩ | ⟨hq, q⟩
 ·obtain ⟨its, r', pl, hz⟩ := I.list hq
  have hlen := r'.length
  refine call_tuple_list pl.isList (fun h' kp => ?_) (by simp only [List.size_toArray] <;> omega)
  have I1 : Inv X pins σ H { s with heap := h' } := I.kept (t' := s.toks) kp
  have I2 : Inv X pins σ (upd H h'.objs.size (.tup ys)) { s with heap := h'.push { cls := .type "tuple", data := .seq its.toArray } } :=
   I1.laid (t' := s.toks) (fun b o e => Heap.get?_push_of_some _ e) (Nat.le_refl _) (show ObjOk X.prog X.w _ _ _ (.tup ys) from ⟨hz, its, r', IsTup.new _ _⟩)
  exact ⟨.ref h'.objs.size, _, I2, rfl, q _ (I1.hok.fresh (Nat.le_refl _))⟩
 ·obtain ⟨its, r', pl, hz⟩ := I.tuple hq
  exact call_tuple_same pl ⟨.ref p, H, I, rfl, q⟩
noncomputable def tyV (K : PySem.W.Frag) (T : String) (x : V) (H : Hp) : Prop := match x with
 | .str _ => T = "str"
 | .int _ => T = "int"
 | .ref p => (T = "list" ∧ ∃ xs, SqL K H p xs) ∨ (T = "tuple" ∧ ∃ o, K.lookup p = some o ∧ o.cls = .type "tuple" ∧ o.dict = none) ∨
   (T = "dict" ∧ ((∃ kvs, H p = some (.dK kvs)) ∨ ∃ kvs, H p = some (.dT kvs))) ∨ (T = "set" ∧ ∃ S n, H p = some (.set S n))
 | _ => False
theorem tyV_is {pins : List (Addr × Obj)} {σ : St} {H : Hp} {s : Shared} {T : String} {x : V} {v : Value} (I : Inv X pins σ H s) (r : RelV x v) (ty : tyV X.K T x H) :
  s.TypeIs v T ∧ ∀ a, v = .ref a → ∃ ob, s.heap.get? a = some ob ∧ ob.dict = none := by
 cases x with
 | str z =>
  obtain ⟨t, rfl⟩ := r
  cases (show T = "str" from ty)
  exact ⟨typeIs_str s z t, fun _ e => nomatch e⟩
 | int i =>
  obtain ⟨t, rfl⟩ := r
  cases (show T = "int" from ty)
  exact ⟨typeIs_int s i t, fun _ e => nomatch e⟩
 | ref p =>
  cases r
  rcases ty with ⟨rfl, xs, hq⟩ | ⟨rfl, o, hk, hc, hd⟩ | ⟨rfl, hk⟩ | ⟨rfl, S, n, hk⟩
  ·obtain ⟨its, _, pl, _⟩ := I.list hq
   refine ⟨pl.isList.typeIs, fun a e => ?_⟩
   cases e
   obtain ⟨o, n, e, c, hd, _⟩ := pl
   exact ⟨o, e, hd⟩
  ·refine ⟨⟨o, I.kIn p o hk, hc⟩, fun a e => ?_⟩
   cases e
   exact ⟨o, I.kIn _ o hk, hd⟩
  ·have z : ∃ o, s.heap.get? p = some o ∧ o.ExactDict := by
    rcases hk with ⟨kvs, hk⟩ | ⟨kvs, hk⟩
    ·obtain ⟨_, _, _, _, o, _, _, e, ex, _⟩ := I.hok p _ hk
     exact ⟨o, e, ex⟩
    ·obtain ⟨_, _, _, _, o, _, _, e, ex, _⟩ := I.hok p _ hk
     exact ⟨o, e, ex⟩
   obtain ⟨o, e, ex⟩ := z
   refine ⟨⟨o, e, ex.1⟩, fun a e2 => ?_⟩
   cases e2
   exact ⟨o, e, ex.2.1⟩
  ·obtain ⟨o, _, _, _, e, ex, _⟩ := I.hok p _ hk
   refine ⟨⟨o, e, ex.1⟩, fun a e2 => ?_⟩
   cases e2
   exact ⟨o, e, ex.2.1⟩
 | _ => exact False.elim ty
noncomputable def tBM0 (K : PySem.W.Frag) (T : String) (r : V → List V → Hp → VK → Prop) (to : TE) : TE := fun σ H Q => to σ H fun x H1 => tyV K T x H1 ∧ r x [] H1 Q
noncomputable def tBM (K : PySem.W.Frag) (T : String) (r : V → List V → Hp → VK → Prop) (to : TE) (t : TA) : TE := fun σ H Q => to σ H fun x H1 => tyV K T x H1 ∧ t σ H1 fun xs H2 => r x xs H2 Q
variable {o e : Expr} {es : List Expr} {to : TE} {t : TA} {name : Str} {apos cpos : Pos} {T id : String} {r : V → List V → Hp → VK → Prop}
theorem pe_bm (pa : PlainAttrs T) (slot : Slot T name id) (hty : typeOf (.builtin id) = pure (.type "method_descriptor")) (hm : MtR X id r) (ho : PE X o to) (ha : PA X (e :: es) t)
  (hbase : attributeBase o name X.env (eval o X.env) = eval o X.env := by rfl)
  (hfew : ((backTo cpos (starEach (e :: es) X.env)).all (fun x => !x.1) && (backToKw cpos (keywordEach [] X.env)).all (fun x => x.1.isSome)
   && decide ((e :: es).length + ([] : List Keyword).length + (if ([] : List Keyword).isEmpty then 0 else 1) < 30)) = true := by rfl)
  (hline : (apos.endLine == cpos.line) = true := by rfl) (hs : starEach (e :: es) X.env = (false, eval e X.env) :: starEach es X.env := by rfl) (hplain : (backTo cpos (starEach es X.env)).any (·.1) = false := by rfl) :
  PE X (.Call (.Attribute o name apos) (e :: es) [] cpos) (tBM X.K T r to t) := by
 intro pins s σ H Q I h
 refine wpAny_Call_method_late hbase hfew hline rfl (thn (ho pins s σ H _ I h) fun v s1 ⟨x, H1, I1, r1, ty, q1⟩ => ?_)
 obtain ⟨h1, h2⟩ := tyV_is I1 r1 ty
 refine ⟨T, id, pa, slot, hty, h1, h2, ?_⟩
 have hA := ha cpos pins s1 σ H1 _ I1 q1
 rw [hs] at hA ⊢
 refine Calls.callWith_builtin (by show (false || (backTo cpos (starEach es X.env)).any (·.1)) = false; rw [hplain] <;> rfl) (Calls.evalArgs_plain ?_)
 exact thn hA fun us s2 ⟨vs, H2, I2, r2, q2⟩ => hm pins s2 σ H2 x vs v us Q I2 r1 r2 q2
/- xs.append(e), list.index on a module's tuple .. are MtR facts of 06m -/
end
end L2
namespace L2
open PySem PySem.Spec PyProof.Rows
noncomputable def MtM (X : Cx) (id : String) (r : V → List V → Hp → VK → Prop) : Prop :=
 ∀ (pins : List (Addr × Obj)) (s : Shared) (σ : St) (H : Hp) (x : V) (xs : List V) (v : Value) (us : List Value) (Q : VK), Inv X pins σ H s → RelV x v → Vals xs us → r x xs H Q →
  wpAny (model X.prog X.w) X.A (call (.builtin id) (v :: us)) (EP X pins σ Q) X.xe s
theorem Vals.one : ∀ {x : V} {us : List Value}, Vals [x] us → ∃ u, us = [u] ∧ RelV x u
 | _, _, .cons r .nil => ⟨_, rfl, r⟩
theorem Vals.eraseIdx : ∀ {xs : List V} {us : List Value} (i : Nat), Vals xs us → Vals (xs.eraseIdx i) (us.eraseIdx i)
 | _, _, _, .nil => .nil
 | _, _, 0, .cons _ t => t
 | _, _, i + 1, .cons r t => .cons r (Vals.eraseIdx i t)
theorem len_erase {α : Type} : ∀ (l : List α) (i : Nat), (l.eraseIdx i).length ≤ l.length
 | [], _ => Nat.le_refl _
 | _ :: _, 0 => Nat.le_succ _
 | _ :: r, i + 1 => Nat.succ_le_succ (len_erase r i)
section
variable {X : Cx} {pins : List (Addr × Obj)} {σ : St} {H : Hp} {s : Shared} {l b : Addr} {xs ys zs : List V}
theorem Inv.lset {its its' : List Value} {n : Nat} {f : Array Value → Array Value} {t' : Nat} (I : Inv X pins σ H s) (hH : H l = some (.lst xs))
  (e : s.heap.get? l = some { cls := .type "list", data := .seq its.toArray n }) (hf : f its.toArray = its'.toArray) (hv : Vals ys its') (hz : ys.length ≤ sizeLine) :
  Inv X pins σ (upd H l (.lst ys)) { s with heap := s.heap.update l (Obj.mapSeq f), toks := t' } := by
 have q := PySem.IsL.update e f
 rw [hf] at q
 refine I.write (x := l) (e := l) (by rw [hH]; exact trivial) (.inl rfl) (fun b' u hb hu => (Heap.get?_update_other s.heap (Obj.mapSeq f) (Ne.symm hb)).trans hu) ⟨_, q⟩ ?_
 exact ⟨hz, its', _, hv, q⟩
theorem Inv.lnew {its : List Value} {t' : Nat} (I : Inv X pins σ H s) (hv : Vals ys its) (hz : ys.length ≤ sizeLine) :
  Inv X pins σ (upd H s.heap.objs.size (.lst ys)) { s with heap := s.heap.push { cls := .type "list", data := .seq its.toArray }, toks := t' } :=
 I.laid (fun _ _ q => Heap.get?_push_of_some _ q) (Nat.le_refl _) ⟨hz, its, 0, hv, Heap.get?_push_size _ rfl⟩
theorem Inv.fresh (I : Inv X pins σ H s) : H s.heap.objs.size = none := I.hok.fresh (Nat.le_refl _)
theorem Inv.lstM (I : Inv X pins σ H s) (hH : H l = some (.lst xs)) : xs.length ≤ sizeLine ∧ ∃ (its : List Value) (n : Nat), Vals xs its ∧ xs.length = its.length ∧ s.heap.get? l = some { cls := .type "list", data := .seq its.toArray n } := by
 obtain ⟨z, its, n, r, e⟩ := I.hok l _ hH
 exact ⟨z, its, n, r, r.length, e⟩
theorem notLongL {n : Nat} (h : n ≤ sizeLine) : Builtin.List.listTooLong n = false := by
 unfold Builtin.List.listTooLong
 exact decide_eq_false (by omega)
end
section
variable {X : Cx}
noncomputable def rAppend : V → List V → Hp → VK → Prop := fun x vs H Q => ∃ l xs y, x = .ref l ∧ vs = [y] ∧ H l = some (.lst xs) ∧ xs.length < sizeLine ∧ Q .non (upd H l (.lst (xs ++ [y])))
theorem mt_append : MtM X "list.append" rAppend := by
 intro pins s σ H x vs v us Q I rx rv h
 obtain ⟨l, xs, y, rfl, rfl, hH, hz, q⟩ := h
 cases rx
 obtain ⟨u, rfl, ru⟩ := rv.one
 obtain ⟨z, its, n, r, hl, e⟩ := I.lstM hH
 refine call_meets F.slot_list_append ⟨_, e, rfl⟩ F.entry_list_append (F.args_list_append_2 _ _) (PySem.list_append l its.toArray n u (by rw [List.size_toArray]; omega)) ⟨e, ?_⟩
 refine ⟨.non, _, I.lset (its' := its ++ [u]) hH e (by simp) (r.append (.cons ru .nil)) ?_, rfl, q⟩
 rw [List.length_append, List.length_singleton]
 omega
noncomputable def rExtend : V → List V → Hp → VK → Prop := fun x vs H Q => ∃ l b xs zs, x = .ref l ∧ vs = [.ref b] ∧ H l = some (.lst xs) ∧ H b = some (.lst zs) ∧ xs.length + zs.length ≤ sizeLine ∧ Q .non (upd H l (.lst (xs ++ zs)))
theorem mt_extend : MtM X "list.extend" rExtend := by
 intro pins s σ H x vs v us Q I rx rv h
 obtain ⟨l, b, xs, zs, rfl, rfl, hH, hB, hz, q⟩ := h
 cases rx
 obtain ⟨u, rfl, ru⟩ := rv.one
 cases ru
 obtain ⟨z, its, n, r, hl, e⟩ := I.lstM hH
 obtain ⟨z2, its2, n2, r2, hl2, e2⟩ := I.lstM hB
 have hsz : its.toArray.size + its2.toArray.size ≤ sizeLine := by rw [List.size_toArray, List.size_toArray]; omega
 have hlong : ¬ (!its.toArray.isEmpty && Builtin.List.listTooLong (its.toArray.size + its2.toArray.size)) = true := by
  rw [notLongL hsz, Bool.and_false]
  exact Bool.false_ne_true
 refine call_meets F.slot_list_extend ⟨_, e, rfl⟩ F.entry_list_extend (F.args_list_extend_2 _ _)
  (AutoSeq1.list_extend_list_list_0 l its.toArray n b its2.toArray n2 hlong (by rw [List.size_toArray]; omega) (by omega)) ⟨e, e2, ?_⟩
 refine ⟨.non, _, I.lset (its' := its ++ its2) hH e (by simp) (r.append r2) ?_, rfl, q⟩
 rw [List.length_append]
 omega
noncomputable def rPopAt : V → List V → Hp → VK → Prop := fun x vs H Q => ∃ l xs i k y, x = .ref l ∧ vs = [.int i] ∧ H l = some (.lst xs) ∧ -(2 ^ 63) ≤ i ∧ i < 2 ^ 63 ∧ seqIndex? i xs.length = some k ∧ xs[k]? = some y ∧ Q y (upd H l (.lst (xs.eraseIdx k)))
theorem mt_popAt : MtM X "list.pop" rPopAt := by
 intro pins s σ H x vs v us Q I rx rv h
 obtain ⟨l, xs, i, k, y, rfl, rfl, hH, h1, h2, hk, hy, q⟩ := h
 cases rx
 obtain ⟨u, rfl, ru⟩ := rv.one
 obtain ⟨t, rfl⟩ := ru
 obtain ⟨z, its, n, r, hl, e⟩ := I.lstM hH
 obtain ⟨w, hw, rw'⟩ := r.get hy
 refine call_meets F.slot_list_pop ⟨_, e, rfl⟩ F.entry_list_pop (F.args_list_pop_2 _ _)
  (MeetsSeq.list_pop_at l its.toArray n i t k w (fitsIndex_both h1 h2) (by rw [List.size_toArray, ← hl]; exact hk) (by rw [← Array.getElem?_toList]; exact hw) (by rw [List.size_toArray]; omega)) ⟨e, ?_⟩
 refine ⟨y, _, I.lset (its' := its.eraseIdx k) hH e ?_ (r.eraseIdx k) ?_, rw', q⟩
 ·show its.toArray.eraseIdxIfInBounds k = (its.eraseIdx k).toArray
  rw [List.eraseIdxIfInBounds_toArray]
 ·have := len_erase xs k
  omega
noncomputable def rCat : R2 := fun x y H Q => ∃ l b xs zs, x = .ref l ∧ y = .ref b ∧ H l = some (.lst xs) ∧ H b = some (.lst zs) ∧ xs.length + zs.length ≤ sizeLine ∧ ∀ p, H p = none → Q (.ref p) (upd H p (.lst (xs ++ zs)))
theorem op_cat : OpR X (binaryOp .Add) rCat := by
 intro pins s σ H x y v u Q I rx ry h
 obtain ⟨l, b, xs, zs, rfl, rfl, hH, hB, hz, q⟩ := h
 cases rx
 cases ry
 obtain ⟨z, its, n, r, hl, e⟩ := I.lstM hH
 obtain ⟨z2, its2, n2, r2, hl2, e2⟩ := I.lstM hB
 refine PySem.P.add_list e e2 ?_ (by rw [List.size_toArray, List.size_toArray]; omega)
 have ea : its.toArray ++ its2.toArray = (its ++ its2).toArray := by simp
 rw [ea]
 exact ⟨.ref _, _, I.lnew (t' := s.toks) (r.append r2) (by rw [List.length_append]; omega), rfl, q _ I.fresh⟩
end
section
variable {prog : Program} {w : World} {A : Around} {E : Value → Shared → Prop} {s : Shared}
end
section
variable {X : Cx}
end
end L2
namespace Att
open PySem PySem.W PySem.Calls PyProof.Rows
theorem ints_of_wellAll {P : Params} {h : Heap} : ∀ (ns : List Int) (vs : List Value), WellAll P h vs (ns.map WData.int) → IntsAre vs ns := by
 intro ns
 induction ns with
 | nil =>
  intro vs w
  rw [List.map_nil] at w
  cases w
  exact .nil
 | cons n ns ih =>
  intro vs w
  rw [List.map_cons] at w
  cases w with
  | cons a b =>
   cases a
   exact .cons _ _ (ih _ b)
theorem script_of {l : OpenLaw} {n : Nat} (hn : l.most = some n) {P : Params} {h : Heap} {args : List WData} {vals : List Value}
  (hpre : l.row.toRowW.claim.pre args = true) (hwl : WellAll P h vals args) :
  ∃ a vs ns, vals = [Value.ref a] ∧ args = [WData.list (ns.map WData.int)] ∧ h.get? a = some { cls := .type "list", data := .seq vs.toArray } ∧ IntsAre vs ns ∧ ns.length ≤ n := by
 have hsh : WShape.hasAll [] args [.list .int] = true := (pre_splitW hpre).1
 have hc : l.pre.holds [] { args := args } = true := (pre_splitW hpre).2
 obtain ⟨d, r, rfl, h1, h2⟩ := hasAllW_cons hsh
 obtain rfl := hasAllW_nil h2
 obtain ⟨xs, rfl, h3⟩ := hasW_list h1
 obtain ⟨ns, rfl⟩ := items_int h3
 have hlen : ns.length ≤ n := by
  unfold OpenLaw.pre at hc
  have h4 : (WTm.not (.lt (.lit (.int (n : Int))) (.len (.arg 0)))).holds [] { args := [.list (ns.map .int)] } = true := by
   have h4 := (holds_andW hc).1
   rw [hn] at h4
   exact h4
  have h5 := condW_of h4 (w_not (w_lt w_lit (w_len_list (w_arg rfl))))
  rw [List.length_map] at h5
  refine Nat.le_of_not_lt fun q => ?_
  have q' : (n : Int) < ((ns.length : Nat) : Int) := by omega
  first
   | (rw [decide_eq_true q'] at h5; exact absurd h5 (by decide))
   | (simp at h5; omega)
 cases hwl with
 | cons w1 w2 =>
  cases w2
  cases w1 with
  | list ho hall => exact ⟨_, _, ns, rfl, rfl, ho, ints_of_wellAll ns _ hall, hlen⟩
theorem post_true (l : OpenLaw) (args : List WData) : l.row.toRowW.claim.post args (.bool true) args = true :=
 postW_of (r := l.row.toRowW) (X := (true == true))
  (show WShape.has [] (.bool true) .bool = true by first | rfl | decide | simp [WShape.has, WShape.arms, WShape.armsAll])
  (show (WTm.eq .res (.lit (.bool true))).value [] { args := args, res := some (.bool true), after := args } = some (.bool (true == true)) from w_eq_bool (w_res rfl) w_lit) rfl
theorem attach_call {l : OpenLaw} {n : Nat} {q : Program} {loose : List Str} {XP : (Str → Option Value) → Heap → Prop} {YP : World → Heap → Prop} {d : DefRec}
  (hn : l.most = some n) (hdf : d.params.defaults = [])
  (call : ∀ (w : World) (s₀ s₁ : Shared) (mg mb : Str → Option Value) (fa : Addr) (o : Obj) (pm cd doc : Value) (a : Addr) (vs : List Value) (ns : List Int),
   Ground q loose [] XP w s₀ mg mb s₁.heap → YP w s₁.heap →
   s₁.heap.get? fa = some o → o.data = .func (docDef d.name d.params d.body d.scope pm cd doc) → s₁.heap.CodeRec cd d.name → mg d.name = some (.ref fa) →
   s₁.heap.get? a = some { cls := .type "list", data := .seq vs.toArray } → IntsAre vs ns → ns.length ≤ n → s₁.gens = #[] →
   codeAny (model l.prog w) callerA (.call (.ref fa) ⟨[.ref a], []⟩) (fun r s' => r = .ok (.ret (.bool true)) ∧ OldK s₁.heap s'.heap ∧ s'.os = s₁.os ∧ AllBare s'.gens) s₁) :
  WalkO q loose XP YP l.row.toRowW d [] (fun f vs => PySem.call f vs) := by
 intro w s₀ s₁ mg mb G Y fa o pm cd doc dV kV ho hd hcd hD hmg hg args vals as hpre hlay hrd hwl hlo
 obtain rfl : dV = .none := Dflts.none hD hdf
 obtain rfl : kV = .none := Dflts.noKw hD
 obtain ⟨a, vs, ns, rfl, rfl, hobj, hints, hlen⟩ := script_of hn hpre hwl
 refine enter_call (codeAny_mono (call w s₀ s₁ mg mb fa o pm cd doc a vs ns G Y ho (fd_plain hd) hcd hmg hobj hints hlen hg) fun r s' hq => ?_)
 obtain ⟨rfl, h2, h3, h4⟩ := hq
 exact ⟨.inl ⟨.bool true, .bool true, [], rfl, fun _ => rfl, .bool true, post_true l _, fun _ => ⟨List.Pairwise.nil, fun _ hm => (nomatch hm)⟩⟩, h2, h3, h4⟩
section
variable {prog : Program} {w : World} {A : Around} {E : Value → Shared → Prop} {s : Shared} {K : Frag}
end
end Att
namespace L2
open PySem PySem.Spec PyProof.Rows
theorem vals_ints : ∀ {vs : List Value} {ns : List Int}, IntsAre vs ns → Vals (ns.map V.int) vs
 | _, _, .nil => .nil
 | _, _, .cons n t h => .cons ⟨t, rfl⟩ (vals_ints h)
noncomputable def Only (H : Hp) : Prop := ∀ b, H b = none ∨ ∃ o xs, H b = some (.frz o (.lst xs))
theorem law_call {P : Program} {w : World} {K : PySem.W.Frag} {mg mb : Str → Option Value} {CX : CXT} {k : Nat} {fa a : Addr} {fd : FuncData} {x : Str} {sp : Sp} {s₁ : Shared} {vs : List Value} {ns : List Int}
  (KX : K.In s₁.heap) (hns : s₁.heap.Ns mainGlobals mg) (hb : s₁.heap.Ns builtinsNs mb) (hbb : ∀ x : Str, x ≠ "__name__" → mb x = bootBuiltins x) (hlim : s₁.heap.NoLimit) (hg : s₁.gens = #[])
  (ha : s₁.heap.get? a = some { cls := .type "list", data := .seq vs.toArray }) (hi : IntsAre vs ns) (hl : ns.length ≤ sizeLine) (hr : Room k callerA)
  (F : ∀ base : Heap, K.In base → base.Ns mainGlobals mg → FnOk P w K mg base CX k fa fd [x] sp) (hbind : ∀ (s : Shared) (u : Value), BindsTo s fd ⟨[u], []⟩ [(x, u)])
  (hsp : ∀ H : Hp, Only H → SqL K H a (ns.map V.int) → sp [.ref a] H (fun v _ => v = .bl true) fun _ _ _ => False)
  (hCX : ∀ H e s', CX [] H s₁ (fun _ _ _ => False) e s' → False) :
  codeAny (model P w) callerA (.call (.ref fa) ⟨[.ref a], []⟩) (fun r s' => r = .ok (.ret (.bool true)) ∧ OldK s₁.heap s'.heap ∧ s'.os = s₁.os ∧ AllBare s'.gens) s₁ := by
 have rv := vals_ints hi
 have lenV := hi.length
 -- from an abstract heap in which nothing but the script may be tracked
 have core : ∀ H : Hp, Only H → SqL K H a (ns.map V.int) → HOk P w H s₁.heap → (∀ b, H b ≠ none → b = a) → (H a ≠ none → K.lookup a = none) →
   codeAny (model P w) callerA (.call (.ref fa) ⟨[.ref a], []⟩) (fun r s' => r = .ok (.ret (.bool true)) ∧ OldK s₁.heap s'.heap ∧ s'.os = s₁.os ∧ AllBare s'.gens) s₁ := by
  intro H hO hS hok hA hK
  have base_of : ∀ {b : Addr} {o : Obj}, s₁.heap.get? b = some o → H b = none → (hidT s₁.heap H).get? b = some o := fun e n => hidT_get e n
  have noA : ∀ {b : Addr} {o : Obj} {es : Array DictEntry} {ep : Nat}, s₁.heap.get? b = some o → o.data = .dict es ep → H b = none := fun {b o es ep} e d => by
   cases q : H b with
   | none => rfl
   | some u =>
    have e' : b = a := hA b (by rw [q]; simp)
    subst e'
    rw [ha] at e; cases e
    have d' : Data.seq vs.toArray _ = Data.dict es ep := d
    cases d'
  have nsK : ∀ {b : Addr} {m : Str → Option Value}, s₁.heap.Ns b m → (hidT s₁.heap H).Ns b m := fun {b m} ⟨o, es, ep, e, d, r⟩ => ⟨o, es, ep, base_of e (noA e d), d, r⟩
  have hKb : K.In (hidT s₁.heap H) := fun b o e => base_of (KX b o e) (by
   cases q : H b with
   | none => rfl
   | some u =>
    have e' : b = a := hA b (by rw [q]; simp)
    subst e'
    rw [hK (by rw [q]; simp)] at e; cases e)
  have hM : Mod K mg (hidT s₁.heap H) := ⟨hKb, nsK hns, ⟨mb, nsK hb, hbb⟩, let ⟨mc, h1, h2⟩ := hlim; ⟨mc, nsK h1, h2⟩⟩
  have e0 : Env0 P w K mg (hidT s₁.heap H) callerA [] s₁ H := ⟨rfl, hM, fun b o e => of_hidT e, Nat.le_of_eq (hidT_size _ _), trivial, fun b hb => absurd (show b ∈ ([] : List Addr) from hb) (by simp), hok, .of_eq hg⟩
  refine codeAny_mono ((F _ hKb (nsK hns)).run callerA [] s₁ H ⟨[.ref a], []⟩ [.ref a] [.ref a] _ _ hr e0 (hbind s₁ (.ref a)) (.cons rfl .nil) (hsp H hO hS)) fun r s' h => ?_
  cases r with
  | error e => exact (hCX H e s' h).elim
  | ok fl =>
   cases fl with
   | next => exact False.elim h
   | brk => exact False.elim h
   | cont => exact False.elim h
   | ret u =>
    obtain ⟨v, H', os, bare, un, hok', r', q⟩ := h
    have q' : v = .bl true := q
    subst q'
    obtain rfl : u = Value.bool true := r'
    refine ⟨rfl, OldK.of_keep fun b o e => ?_, os, bare⟩
    cases q : H b with
    | none => exact un.keep b o e q (by intro z; exact absurd (show b ∈ ([] : List Addr) from z) (by simp)) (by simp)
    | some u =>
     rcases hO b with z | ⟨ob, xs, z⟩
     ·rw [q] at z; cases z
     ·have z2 := un.frzs b ob _ z
      obtain ⟨e1, _⟩ := hok b _ z
      obtain ⟨e2, _⟩ := hok' b _ z2
      rw [e] at e1; cases e1
      exact e2
 cases hk : K.lookup a with
 | some o =>
  -- the script is one of the module's own objects
  have e := KX a o hk
  rw [ha] at e
  cases e
  refine core (fun _ => none) (fun _ => .inl rfl) (.inr ⟨_, vs.toArray, _, hk, rfl, rfl, rfl, by rw [List.size_toArray, lenV]; exact hl, by simpa using rv⟩) (fun b u z => by have z' : (none : Option HO) = some u := z; cases z') (fun b z => absurd rfl z) fun z => absurd rfl z
 | none =>
  refine core (fun b => if b = a then some (.frz { cls := .type "list", data := .seq vs.toArray } (.lst (ns.map V.int))) else none) (fun b => ?_) (.inl (.inr ⟨{ cls := .type "list", data := .seq vs.toArray }, if_pos rfl⟩)) (fun b u z => ?_) (fun b z => ?_) fun _ => hk
  ·by_cases hb : b = a
   ·exact .inr ⟨_, _, if_pos hb⟩
   ·exact .inl (if_neg hb)
  ·by_cases hb : b = a
   ·have z' := (if_pos hb).symm.trans z
    cases z'
    subst hb
    exact ⟨ha, by rw [List.length_map]; exact hl, vs, _, rv, ha⟩
   ·have z' := (if_neg hb).symm.trans z
    cases z'
  ·by_cases hb : b = a
   ·exact hb
   ·exact absurd (if_neg hb) z
end L2
namespace L2
open PySem PySem.Spec PyProof.Rows
theorem walk_of {l : PySem.W.OpenLaw} {n k : Nat} {q : Program} {loose : List Str} {XP : (Str → Option Value) → Heap → Prop} {YP : World → Heap → Prop} {d : DefRec} {K : Params → PySem.W.Frag} {CX : World → CXT} {sp : World → Sp} {x : Str}
  (hn : l.most = some n) (hn2 : n ≤ sizeLine) (hdf : d.params.defaults = []) (hr : Room k callerA)
  (hY : ∀ (w : World) (h : Heap), YP w h → (K w.params).In h)
  (F : ∀ (w : World) (mg : Str → Option Value) (fa : Addr) (h : Heap), (K w.params).In h → h.Ns mainGlobals mg → mg d.name = some (.ref fa) →
   ∃ fd : FuncData, (∀ (s : Shared) (u : Value), BindsTo s fd ⟨[u], []⟩ [(x, u)]) ∧
    ∀ base : Heap, (K w.params).In base → base.Ns mainGlobals mg → FnOk l.prog w (K w.params) mg base (CX w) k fa fd [x] (sp w))
  (hsp : ∀ (w : World) (H : Hp) (a : Addr) (ns : List Int), ns.length ≤ n → Only H → SqL (K w.params) H a (ns.map V.int) → sp w [.ref a] H (fun v _ => v = .bl true) fun _ _ _ => False)
  (hCX : ∀ (w : World) (H : Hp) (s : Shared) (e : Value) (s' : Shared), CX w [] H s (fun _ _ _ => False) e s' → False) :
  PySem.W.WalkO q loose XP YP l.row.toRowW d [] (fun f vs => PySem.call f vs) := by
 refine Att.attach_call hn hdf fun w s₀ s₁ mg mb fa o pm cd doc a vs ns G Y ho hd hcd hmg hobj hints hlen hg => ?_
 have KX := hY w _ Y
 obtain ⟨fd, hb, hF⟩ := F w mg fa _ KX G.T.g hmg
 exact law_call KX G.T.g G.T.b G.T.builtins G.T.nolimit hg hobj hints (Nat.le_trans hlen hn2) hr hF hb (fun H hO hS => hsp w H a ns hlen hO hS) fun H e s' => hCX w H s₁ e s'
theorem walk_ofK {l : PySem.W.OpenLaw} {n k : Nat} {q : Program} {loose : List Str} {XP : (Str → Option Value) → Heap → Prop} {YP : World → Heap → Prop} {d : DefRec} {K : Params → PySem.W.Frag} {CX : CXT} {sp : PySem.W.Frag → Sp} {x : Str}
  (hn : l.most = some n) (hn2 : n ≤ sizeLine) (hdf : d.params.defaults = []) (hr : Room k callerA)
  (hY : ∀ (w : World) (h : Heap), YP w h → (K w.params).In h)
  (F : ∀ (w : World) (mg : Str → Option Value) (fa : Addr) (h : Heap), (K w.params).In h → h.Ns mainGlobals mg → mg d.name = some (.ref fa) →
   ∃ fd : FuncData, (∀ (s : Shared) (u : Value), BindsTo s fd ⟨[u], []⟩ [(x, u)]) ∧
    ∀ base : Heap, (K w.params).In base → base.Ns mainGlobals mg → FnOk l.prog w (K w.params) mg base CX k fa fd [x] (sp (K w.params)))
  (hsp : ∀ (K : PySem.W.Frag) (H : Hp) (a : Addr) (ns : List Int), ns.length ≤ n → Only H → SqL K H a (ns.map V.int) → sp K [.ref a] H (fun v _ => v = .bl true) fun _ _ _ => False)
  (hCX : ∀ (H : Hp) (s : Shared) (e : Value) (s' : Shared), CX [] H s (fun _ _ _ => False) e s' → False) :
  PySem.W.WalkO q loose XP YP l.row.toRowW d [] (fun f vs => PySem.call f vs) :=
 walk_of (K := K) (CX := fun _ => CX) (sp := fun w => sp (K w.params)) hn hn2 hdf hr hY F (fun w H a ns h1 h2 h3 => hsp (K w.params) H a ns h1 h2 h3) fun _ H s e s' => hCX H s e s'
end L2
/- THE LAST THEOREM (shape; LID, My.* are yours):
   My.Adr: a structure of the addresses that your layer names (classes, functions); My.Txt K t: a structure (Prop) of the equations over K;
   My.txt_mk : {K} {implicit addresses ..} (e1 : nsIn K mainGlobals "law" = some (some (.ref f))) (e2 : K.lookup f = some ⟨oc, od, .func (fnOf "law" "law" params body scope dV kV doc pm an cdv ct), sl⟩) (e3 : codeIn K cdv "law" = true) .. : ∃ t, My.Txt K t
set_option maxRecDepth 100000 in
set_option maxHeartbeats 0 in
theorem PySem.Challenge.cw_LID_holds : PySem.Challenge.rw_LID.Holds := by
 w_on; o_law; k_head; (case hw => w_witness2)
 k_fill
 refine L2.walk_of (l := PySem.Challenge.rw_LID) (n := 63) (k := 40) (x := "script") (CX := fun w => ..) (sp := fun _ => My.sp_law) rfl (by decide) rfl ⟨rfl, by decide, by decide⟩ (fun w h Y => PySem.W.kIn_of Y) ?F ?S ?C
 case F =>
  intro w mg fa h KX G hmg
  have T : ∃ t, My.Txt (L2.KOf KX) t := by
   dsimp only [L2.KOf]                          -- K must stand as «<heap const> w.params» for k_is
   refine' My.txt_mk ?e1 ?e2 ?e3 ..
   (case e1 => PySem.W.k_is)                    -- in the order: a name -> its address -> its object -> its parts
   (case e2 => PySem.W.k_is)
   ..
  obtain ⟨t, T⟩ := T
  have e0 := hmg.symm.trans (PySem.W.mg_of KX G T.law)
  cases e0                                       -- fa is the law's own address
  exact ⟨_, fun s u => .of_eq rfl, fun base kb nb => My.law_fn T kb nb⟩     -- if «.of_eq rfl» comes too early: refine' ⟨_, ?b, fun base kb nb => My.law_fn T kb nb⟩; exact fun s u => .of_eq rfl
 case S => exact fun w H a ns hl hO hS => ..
 case C => exact ..
(the tactic k_is has no namespace: write k_is) -/
namespace L2
open PySem PySem.Spec PyProof.Rows
noncomputable def inClass (s : Stmt) (j : Nat) : Stmt := match s with
 | .ClassDef _ _ _ body _ _ _ _ _ _ _ => body.getD j (.Pass ⟨0, 0, 0, 0⟩)
 | _ => .Pass ⟨0, 0, 0, 0⟩
noncomputable def defArgs (s : Stmt) : Arguments := match s with
 | .FunctionDef _ a _ _ _ _ _ _ _ _ => a
 | _ => { posonlyargs := [], args := [], vararg := none, kwonlyargs := [], kw_defaults := [], kwarg := none, defaults := [] }
noncomputable def defBody (s : Stmt) : List Stmt := match s with
 | .FunctionDef _ _ b _ _ _ _ _ _ _ => b
 | _ => []
noncomputable def defScope (s : Stmt) : Scope := match s with
 | .FunctionDef _ _ _ _ _ _ sc _ _ _ => sc
 | _ => { kind := .function, names := [], isGenerator := false, isCoroutine := false }
noncomputable abbrev CX0 : CXT := fun _ _ _ _ _ _ => False
noncomputable abbrev E0 : XK := fun _ _ _ => False
theorem pass0 {X : Cx} : Passes CX0 X E0 := fun _ _ _ _ _ _ _ h => h.elim
structure Fun (K : PySem.W.Frag) (x qual : Str) (st : Stmt) (f : Addr) (fd : FuncData) : Prop where
 ex : ∃ (oc : Value) (od : Option Addr) (kV doc pm : Value) (an : Option Addr) (cdv ct : Value) (osl : Array (Option Value)),
  fd = PySem.W.fnOf x qual (defArgs st) (defBody st) (defScope st) .none kV doc pm an cdv ct ∧ K.lookup f = some ⟨oc, od, .func fd, osl⟩ ∧ PySem.W.codeIn K cdv qual = true
 kp : PySem.W.keepIn K (.ref f) = true
section
variable {P : Program} {w : World} {K : PySem.W.Frag} {mg : Str → Option Value} {base : Heap}
theorem Fun.binds {x qual : Str} {st : Stmt} {f : Addr} {fd : FuncData} {ps : List Str} (F : Fun K x qual st f fd)
  (h : ∀ (kV doc pm : Value) (an : Option Addr) (cdv ct : Value) (us : List Value), us.length = ps.length → bindArgs (PySem.W.fnOf x qual (defArgs st) (defBody st) (defScope st) .none kV doc pm an cdv ct) ⟨us, []⟩ = pure (ps.zip us)) : Binds K fd ps [] := by
 obtain ⟨oc, od, kV, doc, pm, an, cdv, ct, osl, rfl, lk, hcd⟩ := F.ex
 exact .all (h kV doc pm an cdv ct)
theorem fun_mk {x qual : Str} {st : Stmt} {f : Addr} {oc : Value} {od an : Option Addr} {osl : Array (Option Value)} {kV doc pm cdv ct : Value} (l : K.lookup f = some ⟨oc, od, .func (PySem.W.fnOf x qual (defArgs st) (defBody st) (defScope st) .none kV doc pm an cdv ct), osl⟩)
  (c : PySem.W.codeIn K cdv qual = true) (k : PySem.W.keepIn K (.ref f) = true) : Fun K x qual st f (PySem.W.fnOf x qual (defArgs st) (defBody st) (defScope st) .none kV doc pm an cdv ct) := ⟨⟨oc, od, kV, doc, pm, an, cdv, ct, osl, rfl, l, c⟩, k⟩
end
section
variable {X : Cx}
theorem pv (i : Nat) {x : Str} {pos : Pos} (hN : X.N[i]? = some x := by rfl) (hv : Vis X.env.scope x := by first | exact Or.inl rfl | exact Or.inr (Or.inl rfl) | exact Or.inr (Or.inr rfl)) (hd : (x == ("__debug__" : Str)) = false := by decide)
  (hcd : (x == ("__classdict__" : Str)) = false := by decide) : PE X (.Name x pos) (tVar i) := pe_var hN hv hd hcd
end
noncomputable def Same (H H' : Hp) : Prop := ∀ b o, H b = some o → H' b = some o
theorem Same.refl (H : Hp) : Same H H := fun _ _ h => h
theorem Same.seq {K : PySem.W.Frag} {H H' : Hp} {a : Addr} {xs : List V} (e : Same H H') (h : SqL K H a xs) : SqL K H' a xs := by
 rcases h with (h | ⟨o, h⟩) | h
 ·exact .inl (.inl (e _ _ h))
 ·exact .inl (.inr ⟨o, e _ _ h⟩)
 ·exact .inr h
end L2
set_option maxRecDepth 100000
namespace L2
open PySem PySem.Spec PyProof.Rows
section
variable {κ : Type} [DecidableEq κ]
noncomputable def valV (kvs : List (κ × V)) (k : κ) : Option V := (kvs.find? fun kv => decide (kv.1 = k)).map (·.2)
noncomputable def putK (kvs : List (κ × V)) (k : κ) (v : V) : List (κ × V) :=
 if (kvs.any fun kv => decide (kv.1 = k)) = true then kvs.map (fun kv => if kv.1 = k then (kv.1, v) else kv) else kvs ++ [(k, v)]
noncomputable def dropK (kvs : List (κ × V)) (k : κ) : List (κ × V) := kvs.filter fun kv => decide (kv.1 ≠ k)
theorem valV_nil {k : κ} : valV ([] : List (κ × V)) k = none := rfl
theorem valV_pos {p : κ × V} {r : List (κ × V)} {k : κ} (e : p.1 = k) : valV (p :: r) k = some p.2 := by simp [valV, List.find?_cons, e]
theorem valV_neg {p : κ × V} {r : List (κ × V)} {k : κ} (e : ¬ p.1 = k) : valV (p :: r) k = valV r k := by simp [valV, List.find?_cons, e]
theorem valV_any (k : κ) : ∀ kvs : List (κ × V), (kvs.any fun kv => decide (kv.1 = k)) = (valV kvs k).isSome
 | [] => rfl
 | p :: r => by
  rw [List.any_cons]
  by_cases e : p.1 = k
  ·simp only [valV_pos e, decide_eq_true e, Bool.true_or, Option.isSome_some]
  ·rw [valV_neg e, decide_eq_false e, Bool.false_or]; exact valV_any k r
theorem valV_map (k j : κ) (y : V) : ∀ kvs : List (κ × V), valV (kvs.map fun kv => if kv.1 = k then (kv.1, y) else kv) j = (valV kvs j).map fun x => if j = k then y else x
 | [] => rfl
 | p :: r => by
  have ih := valV_map k j y r
  rw [List.map_cons]
  by_cases h : p.1 = k
  ·rw [if_pos h]
   by_cases e : p.1 = j
   ·rw [valV_pos (p := (p.1, y)) e, valV_pos e, Option.map_some, if_pos (e.symm.trans h)]
   ·rw [valV_neg (p := (p.1, y)) e, valV_neg e, ih]
  ·rw [if_neg h]
   by_cases e : p.1 = j
   ·rw [valV_pos (p := p) e, valV_pos e, Option.map_some, if_neg (fun z => h (e.trans z))]
   ·rw [valV_neg (p := p) e, valV_neg e, ih]
theorem valV_snoc (k j : κ) (y : V) : ∀ kvs : List (κ × V), valV kvs k = none → valV (kvs ++ [(k, y)]) j = if j = k then some y else valV kvs j
 | [], _ => by
  by_cases e : k = j
  ·rw [if_pos e.symm]; exact valV_pos (p := (k, y)) e
  ·rw [if_neg (fun z => e z.symm)]; exact valV_neg (p := (k, y)) e
 | p :: r, hn => by
  rw [List.cons_append]
  have hk : ¬ p.1 = k := fun z => by rw [valV_pos z] at hn; cases hn
  rw [valV_neg hk] at hn
  have ih := valV_snoc k j y r hn
  by_cases e : p.1 = j
  ·rw [valV_pos e, valV_pos e, if_neg (fun z => hk (e.trans z))]
  ·rw [valV_neg e, valV_neg e, ih]
theorem valV_put (kvs : List (κ × V)) (k j : κ) (y : V) : valV (putK kvs k y) j = if j = k then some y else valV kvs j := by
 unfold putK
 by_cases a : (kvs.any fun kv => decide (kv.1 = k)) = true
 ·rw [if_pos a, valV_map]
  rw [valV_any] at a
  by_cases e : j = k
  ·obtain ⟨x, hx⟩ := Option.isSome_iff_exists.mp a
   rw [if_pos e, e, hx, Option.map_some, if_pos rfl]
  ·rw [if_neg e]
   cases valV kvs j with
   | none => rfl
   | some x => rw [Option.map_some, if_neg e]
 ·rw [if_neg a]
  refine valV_snoc k j y kvs ?_
  rw [valV_any] at a
  cases q : valV kvs k with
  | none => rfl
  | some x => rw [q] at a; exact (a rfl).elim
theorem length_putK (kvs : List (κ × V)) (k : κ) (v : V) : (putK kvs k v).length ≤ kvs.length + 1 := by
 unfold putK
 split
 ·rw [List.length_map]; omega
 ·rw [List.length_append, List.length_cons, List.length_nil]; omega
theorem putK_new {kvs : List (κ × V)} {k : κ} (v : V) (h : valV kvs k = none) : putK kvs k v = kvs ++ [(k, v)] := by
 unfold putK
 rw [valV_any, h]
 exact if_neg (by decide)
theorem RelO.isSome_eq {o : Option V} {u : Option Value} (r : RelO o u) : o.isSome = u.isSome := by
 cases o with
 | none => cases u with
  | none => rfl
  | some _ => exact (show False from r).elim
 | some _ => cases u with
  | none => exact (show False from r).elim
  | some _ => rfl
theorem KV.val {kvs : List (κ × V)} {vs : List (κ × Value)} (r : KV kvs vs) (k : κ) : RelO (valV kvs k) (valueAt vs k) := by
 unfold KV at r
 induction r with
 | nil => exact True.intro
 | @cons p q ps qs h t ih =>
  obtain ⟨h1, h2⟩ := h
  by_cases e : p.1 = k
  ·have e' : q.1 = k := h1.symm.trans e
   have b : valueAt (q :: qs) k = some q.2 := by simp [valueAt, List.find?_cons, e']
   rw [valV_pos e, b]; exact h2
  ·have e' : ¬ q.1 = k := fun z => e (h1.trans z)
   have b : valueAt (q :: qs) k = valueAt qs k := by simp [valueAt, List.find?_cons, e']
   rw [valV_neg e, b]; exact ih
theorem KV.any {kvs : List (κ × V)} {vs : List (κ × Value)} (r : KV kvs vs) (k : κ) : (kvs.any fun kv => decide (kv.1 = k)) = vs.any fun kv => decide (kv.1 = k) := by
 unfold KV at r
 induction r with
 | nil => rfl
 | cons h t ih => rw [List.any_cons, List.any_cons, ih, h.1]
theorem KV.repl {kvs : List (κ × V)} {vs : List (κ × Value)} (r : KV kvs vs) (k : κ) {y : V} {u : Value} (ry : RelV y u) :
  KV (kvs.map fun kv => if kv.1 = k then (kv.1, y) else kv) (vs.map fun kv => if kv.1 = k then (kv.1, u) else kv) := by
 unfold KV at r ⊢
 induction r with
 | nil => exact .nil
 | @cons p q ps qs h t ih =>
  rw [List.map_cons, List.map_cons]
  refine .cons ?_ ih
  obtain ⟨h1, h2⟩ := h
  by_cases e : p.1 = k
  ·rw [if_pos e, if_pos (h1.symm.trans e)]; exact ⟨h1, ry⟩
  ·rw [if_neg e, if_neg (fun z => e (h1.trans z))]; exact ⟨h1, h2⟩
theorem KV.put {kvs : List (κ × V)} {vs : List (κ × Value)} (r : KV kvs vs) (k : κ) {y : V} {u : Value} (ry : RelV y u) : KV (putK kvs k y) (stored vs k u) := by
 unfold putK stored
 rw [r.any k]
 by_cases e : (vs.any fun kv => decide (kv.1 = k)) = true
 ·rw [if_pos e, if_pos e]; exact r.repl k ry
 ·rw [if_neg e, if_neg e]; exact Paired.snoc r ⟨rfl, ry⟩
theorem KV.drop {kvs : List (κ × V)} {vs : List (κ × Value)} (r : KV kvs vs) (k : κ) : KV (dropK kvs k) (without vs k) := by
 unfold KV at r ⊢
 unfold dropK without
 induction r with
 | nil => exact .nil
 | @cons p q ps qs h t ih =>
  obtain ⟨h1, h2⟩ := h
  rw [List.filter_cons, List.filter_cons]
  by_cases e : p.1 = k
  ·have a : ¬ decide (p.1 ≠ k) = true := by simp [e]
   have b : ¬ decide (q.1 ≠ k) = true := by simp [h1.symm.trans e]
   rw [if_neg a, if_neg b]; exact ih
  ·have e' : ¬ q.1 = k := fun z => e (h1.trans z)
   have a : decide (p.1 ≠ k) = true := by simp [e]
   have b : decide (q.1 ≠ k) = true := by simp [e']
   rw [if_pos a, if_pos b]; exact .cons ⟨h1, h2⟩ ih
theorem KV.length {kvs : List (κ × V)} {vs : List (κ × Value)} (r : KV kvs vs) : kvs.length = vs.length := Paired.length r
theorem dropK_le (kvs : List (κ × V)) (k : κ) : (dropK kvs k).length ≤ kvs.length := List.length_filter_le _ _
end
theorem kV_is {P : Program} {w : World} {k : Key} {u : Value} (r : RelV (kV k) u) : (mixKind P w).is k u = true := by
 cases k with
 | inl i => obtain ⟨t, e⟩ := (show ∃ t, u = Value.int i t from r); subst e; exact mixKind_int P w i t
 | inr x => obtain ⟨t, e⟩ := (show ∃ t, u = Value.str x t from r); subst e; exact mixKind_str P w x t
theorem items_are {P : Program} {w : World} : ∀ {ks : List Key} {us : List Value}, Vals (ks.map kV) us → ItemsAre (mixKind P w) ks us
 | [], _, r => by rw [List.map_nil] at r; cases r; exact .nil
 | k :: ks, _, r => by
  rw [List.map_cons] at r
  cases r with
  | cons h t => exact .cons (kV_is h) (items_are t)
noncomputable abbrev KT (H : Hp) : List (List Key × V) → List (List Key × Addr × Value) → Prop := Paired fun p q => p.1 = q.1 ∧ H q.2.1 = some (.tup (p.1.map kV)) ∧ RelV p.2 q.2.2
theorem KT.val {H : Hp} {kvs : List (List Key × V)} {xs : List (List Key × Addr × Value)} (r : KT H kvs xs) (k : List Key) : RelO (valV kvs k) ((atKey xs k).map (·.2)) := by
 induction r with
 | nil => exact True.intro
 | @cons p q ps qs h t ih =>
  obtain ⟨h1, _, h2⟩ := h
  by_cases e : p.1 = k
  ·have e' : q.1 = k := h1.symm.trans e
   have b : atKey (q :: qs) k = some q.2 := by simp [atKey, List.find?_cons, e']
   rw [valV_pos e, b]; exact h2
  ·have e' : ¬ q.1 = k := fun z => e (h1.trans z)
   have b : atKey (q :: qs) k = atKey qs k := by simp [atKey, List.find?_cons, e']
   rw [valV_neg e, b]; exact ih
theorem KT.repl {H : Hp} {kvs : List (List Key × V)} {xs : List (List Key × Addr × Value)} (r : KT H kvs xs) (k : List Key) {y : V} {u : Value} (ry : RelV y u) :
  KT H (kvs.map fun kv => if kv.1 = k then (kv.1, y) else kv) (xs.map (putAt k u)) := by
 induction r with
 | nil => exact .nil
 | @cons p q ps qs h t ih =>
  rw [List.map_cons, List.map_cons]
  refine .cons ?_ ih
  obtain ⟨h1, h2, h3⟩ := h
  unfold putAt
  by_cases e : p.1 = k
  ·rw [if_pos e, if_pos (h1.symm.trans e)]; exact ⟨h1, h2, ry⟩
  ·rw [if_neg e, if_neg (fun z => e (h1.trans z))]; exact ⟨h1, h2, h3⟩
theorem KT.put {H : Hp} {kvs : List (List Key × V)} {xs : List (List Key × Addr × Value)} (r : KT H kvs xs) (k : List Key) {b : Addr} {y : V} {u : Value} (hb : H b = some (.tup (k.map kV))) (ry : RelV y u) :
  KT H (putK kvs k y) (storedH xs k b u) := by
 have e : (kvs.any fun kv => decide (kv.1 = k)) = (atKey xs k).isSome := by
  rw [valV_any, (r.val k).isSome_eq, Option.isSome_map]
 unfold putK storedH
 rw [e]
 by_cases q : (atKey xs k).isSome = true
 ·rw [if_pos q, if_pos q]; exact r.repl k ry
 ·rw [if_neg q, if_neg q]; exact Paired.snoc r ⟨rfl, hb, ry⟩
theorem KT.keeps {H H' : Hp} {kvs : List (List Key × V)} {xs : List (List Key × Addr × Value)} (r : KT H kvs xs) (ht : ∀ b ys, H b = some (.tup ys) → H' b = some (.tup ys)) : KT H' kvs xs :=
 Paired.mapP r fun _ _ z => ⟨z.1, ht _ _ z.2.1, z.2.2⟩
section
variable {P : Program} {w : World} {H : Hp} {h : Heap} {a : Addr}
theorem rd_of {u : HO} (ok : HOk P w H h) (e : Rd H a u) : ObjOk P w H h a u := e.ok ok
theorem dk_rd {kvs : List (Key × V)} (ok : HOk P w H h) (e : Rd H a (.dK kvs)) : kvs.length ≤ sizeLine ∧ (a == sysModules) = false ∧ ∃ vs, KV kvs vs ∧ h.DictOf (mixKind P w) a vs :=
 show ObjOk P w H h a (.dK kvs) from rd_of ok e
theorem dk_of {kvs : List (Key × V)} (ok : HOk P w H h) (e : H a = some (.dK kvs)) : kvs.length ≤ sizeLine ∧ (a == sysModules) = false ∧ ∃ vs, KV kvs vs ∧ h.DictOf (mixKind P w) a vs := dk_rd ok (.inl e)
theorem key_of {ks : List Key} (ok : HOk P w H h) (e : H a = some (.tup (ks.map kV))) : (tupleKind (mixKind P w)).is h ks a := by
 obtain ⟨_, its, r, o, h1, h2, n, h3⟩ := (show ObjOk P w H h a (.tup (ks.map kV)) from ok a _ e)
 exact ⟨o, its.toArray, n, h1, h2, h3, by simpa using items_are r⟩
theorem dt_rd {kvs : List (List Key × V)} (ok : HOk P w H h) (e : Rd H a (.dT kvs)) : kvs.length ≤ sizeLine ∧ (a == sysModules) = false ∧
  ∃ xs, KT H kvs xs ∧ h.DictOfH (tupleKind (mixKind P w)) a xs := by
 obtain ⟨z, y, xs, r, o, es, ep, h1, h2, h3, h4, h5⟩ := (show ObjOk P w H h a (.dT kvs) from rd_of ok e)
 refine ⟨z, y, xs, r, o, es, ep, h1, h2, h3, h4, fun x hx => ?_, h5⟩
 have all : ∀ {l : List (List Key × V)} {m : List (List Key × Addr × Value)}, KT H l m → ∀ x ∈ m, (tupleKind (mixKind P w)).is h x.1 x.2.1 := by
  intro l m q
  induction q with
  | nil => intro x hx; exact nomatch hx
  | @cons p q ps qs hq t ih =>
   intro x hx
   rcases List.mem_cons.mp hx with e | hx
   ·subst e
    exact key_of ok (by rw [← hq.1]; exact hq.2.1)
   ·exact ih x hx
 exact all r x hx
theorem dt_of {kvs : List (List Key × V)} (ok : HOk P w H h) (e : H a = some (.dT kvs)) : kvs.length ≤ sizeLine ∧ (a == sysModules) = false ∧
  ∃ xs, KT H kvs xs ∧ h.DictOfH (tupleKind (mixKind P w)) a xs := dt_rd ok (.inl e)
end
noncomputable def DGet (H : Hp) (a : Addr) (y : V) (r : Option V) : Prop :=
 (∃ kvs k, Rd H a (.dK kvs) ∧ y = kV k ∧ r = valV kvs k) ∨ ∃ kvs k b, Rd H a (.dT kvs) ∧ y = .ref b ∧ H b = some (.tup (k.map kV)) ∧ r = valV kvs k
noncomputable def DPut (H : Hp) (a : Addr) (y v : V) (H' : Hp) : Prop :=
 (∃ kvs k, H a = some (.dK kvs) ∧ y = kV k ∧ kvs.length < sizeLine ∧ H' = upd H a (.dK (putK kvs k v))) ∨
 ∃ kvs k b, H a = some (.dT kvs) ∧ y = .ref b ∧ H b = some (.tup (k.map kV)) ∧ kvs.length < sizeLine ∧ H' = upd H a (.dT (putK kvs k v))
theorem DGet.k {H : Hp} {a : Addr} {kvs : List (Key × V)} {k : Key} (e : H a = some (.dK kvs)) : DGet H a (kV k) (valV kvs k) := .inl ⟨kvs, k, .inl e, rfl, rfl⟩
theorem DPut.k {H : Hp} {a : Addr} {kvs : List (Key × V)} {k : Key} {v : V} (e : H a = some (.dK kvs)) (hl : kvs.length < sizeLine) : DPut H a (kV k) v (upd H a (.dK (putK kvs k v))) := .inl ⟨kvs, k, e, rfl, hl, rfl⟩
section
variable {X : Cx} {pins : List (Addr × Obj)} {σ : St} {H : Hp} {s : Shared} {a : Addr} {y v : V} {u r : Value} {o : Option V} {A : Around} {E : Value → Shared → Prop}
theorem Inv.big (I : Inv X pins σ H s) : sysModules < s.heap.objs.size := by
 have h : mainGlobals < s.heap.objs.size := (I.mod.glob.keeps I.bk).lt
 exact Nat.lt_trans (by decide) h
theorem d_getItem {Q : Value → Shared → Prop} (hu : A.units + 1 < cLine) (I : Inv X pins σ H s) (g : DGet H a y (some v)) (ry : RelV y u) (h : ∀ w' s', Inv X pins σ H s' → RelV v w' → Q w' s') :
  wpAny (model X.prog X.w) A (getItem (.ref a) u) Q E s := by
 rcases g with ⟨kvs, k, e, ey, l⟩ | ⟨kvs, k, b, e, ey, eb, l⟩
 ·subst ey
  obtain ⟨z, hd, vs, rel, dd⟩ := dk_rd I.hok e
  obtain ⟨w', hw, rw'⟩ := RelO.some_of (v := v) (o := valueAt vs k) (by rw [l]; exact rel.val k)
  exact wpAny_getItem_of (kV_is ry) dd.mapOf hw (h w' _ (I.tok _) rw')
 ·subst ey
  cases (show u = Value.ref b from ry)
  obtain ⟨z, hd, xs, rel, dd⟩ := dt_rd I.hok e
  obtain ⟨w', hw, rw'⟩ := RelO.some_of (v := v) (o := (atKey xs k).map (·.2)) (by rw [l]; exact rel.val k)
  obtain ⟨p, hp, hp2⟩ := Option.map_eq_some_iff.mp hw
  refine wpAny_getItem_heap (tupleKind_room_in1 hu) (key_of I.hok eb) dd hp ?_
  rw [hp2]
  exact h w' _ (I.tok _) rw'
theorem d_in {Q : Value → Shared → Prop} (hu : A.units + 1 < cLine) (I : Inv X pins σ H s) (g : DGet H a y o) (ry : RelV y u) (h : ∀ s', Inv X pins σ H s' → Q (.bool o.isSome) s') :
  wpAny (model X.prog X.w) A (compareOp .In u (.ref a)) Q E s := by
 rcases g with ⟨kvs, k, e, ey, l⟩ | ⟨kvs, k, b, e, ey, eb, l⟩
 ·subst ey
  obtain ⟨z, hd, vs, rel, dd⟩ := dk_rd I.hok e
  refine wpAny_in_of (kV_is ry) hd dd.mapOf ?_
  rw [← (rel.val k).isSome_eq, ← l]
  exact h _ (I.tok _)
 ·subst ey
  cases (show u = Value.ref b from ry)
  obtain ⟨z, hd, xs, rel, dd⟩ := dt_rd I.hok e
  refine wpAny_in_heap (tupleKind_room_in1 hu) (key_of I.hok eb) hd dd ?_
  have q := (rel.val k).isSome_eq
  rw [Option.isSome_map] at q
  rw [← q, ← l]
  exact h _ (I.tok _)
theorem d_notIn {Q : Value → Shared → Prop} (hu : A.units + 1 < cLine) (I : Inv X pins σ H s) (g : DGet H a y o) (ry : RelV y u) (h : ∀ s', Inv X pins σ H s' → Q (.bool (!o.isSome)) s') :
  wpAny (model X.prog X.w) A (compareOp .NotIn u (.ref a)) Q E s := by
 rcases g with ⟨kvs, k, e, ey, l⟩ | ⟨kvs, k, b, e, ey, eb, l⟩
 ·subst ey
  obtain ⟨z, hd, vs, rel, dd⟩ := dk_rd I.hok e
  refine wpAny_notIn_of (kV_is ry) hd dd.mapOf ?_
  rw [← (rel.val k).isSome_eq, ← l]
  exact h _ (I.tok _)
 ·subst ey
  cases (show u = Value.ref b from ry)
  obtain ⟨z, hd, xs, rel, dd⟩ := dt_rd I.hok e
  refine wpAny_notIn_heap (tupleKind_room_in1 hu) (key_of I.hok eb) hd dd ?_
  have q := (rel.val k).isSome_eq
  rw [Option.isSome_map] at q
  rw [← q, ← l]
  exact h _ (I.tok _)
theorem d_write {h' : Heap} {t' : Nat} {ob : HO} (I : Inv X pins σ H s) (mu : Mut (H a)) (hs : Heap.SameBut a s.heap h') (he : ∃ q, h'.get? a = some q) (new : ObjOk X.prog X.w (upd H a ob) h' a ob) :
  Inv X pins σ (upd H a ob) { s with heap := h', toks := t' } :=
 I.write (x := a) (e := a) mu (.inl rfl) (fun b q hb z => (hs.2 b hb).trans z) he new
theorem dk_new {P : Program} {w : World} {H' : Hp} {h' : Heap} {kvs : List (Key × V)} {vs : List (Key × Value)} (z : kvs.length ≤ sizeLine) (hd : (a == sysModules) = false) (rel : KV kvs vs) (dd : h'.DictOf (mixKind P w) a vs) :
  ObjOk P w H' h' a (.dK kvs) := ⟨z, hd, vs, rel, dd⟩
theorem d_setItem {H' : Hp} {Q : Unit → Shared → Prop} (hu : A.units + 1 < cLine) (I : Inv X pins σ H s) (g : DPut H a y v H') (ry : RelV y u) (rv : RelV v r) (h : ∀ s', Inv X pins σ H' s' → Q () s') :
  wpAny (model X.prog X.w) A (setItem (.ref a) u r) Q E s := by
 rcases g with ⟨kvs, k, e, ey, l, eH⟩ | ⟨kvs, k, b, e, ey, eb, l, eH⟩
 ·subst ey eH
  obtain ⟨z, hd, vs, rel, dd⟩ := dk_of I.hok e
  have hz : vs.length ≤ sizeLine := by rw [← rel.length]; exact z
  have hl : (putK kvs k v).length ≤ sizeLine := by have := length_putK kvs k v; omega
  refine wpAny_setItem_pairs (hsz := hz) (kV_is ry) dd fun h' dd' hs => h _ ?_
  have he : ∃ q, h'.get? a = some q := let ⟨q, _, _, hq, _⟩ := dd'; ⟨q, hq⟩
  exact d_write I (by rw [e]; exact True.intro) hs he (dk_new hl hd (rel.put k rv) dd')
 ·subst ey eH
  cases (show u = Value.ref b from ry)
  obtain ⟨z, hd, xs, rel, dd⟩ := dt_of I.hok e
  have hz : xs.length ≤ sizeLine := by rw [← Paired.length rel]; exact z
  have hl : (putK kvs k v).length ≤ sizeLine := by have := length_putK kvs k v; omega
  refine wpAny_setItem_heap (hsz := hz) (tupleKind_room_in1 hu) (key_of I.hok eb) dd fun h' dd' hs => h _ ?_
  obtain ⟨q, es, ep, hq, h2, h3, h4, _, h5⟩ := dd'
  refine d_write I (by rw [e]; exact True.intro) hs ⟨q, hq⟩ ⟨hl, hd, _, (rel.put k eb rv).keeps fun c ys ec => ?_, q, es, ep, hq, h2, h3, h4, h5⟩
  rw [upd_ne (ne_of ec e (fun z => nomatch z))]
  exact ec
end
section
variable {X : Cx} {pins : List (Addr × Obj)} {σ : St} {H : Hp} {s : Shared} {a : Addr} {kvs : List (Key × V)} {k : Key} {u : Value} {A : Around} {E : Value → Shared → Prop}
theorem d_pop {v : V} {more : List Value} {Q : Value → Shared → Prop} (I : Inv X pins σ H s) (e : H a = some (.dK kvs)) (ry : RelV (kV k) u) (l : valV kvs k = some v) (hm : more = [] ∨ ∃ x, more = [x])
  (h : ∀ w' s', Inv X pins σ (upd H a (.dK (dropK kvs k))) s' → RelV v w' → Q w' s') : wpAny (model X.prog X.w) A (call (.builtin "dict.pop") (.ref a :: u :: more)) Q E s := by
 obtain ⟨z, hd, vs, rel, dd⟩ := dk_of I.hok e
 obtain ⟨w', hw, rw'⟩ := RelO.some_of (v := v) (o := valueAt vs k) (by rw [← l]; exact rel.val k)
 have hp : (keyPart u).isSome = true := by
  cases k with
  | inl i => obtain ⟨t, q⟩ := (show ∃ t, u = Value.int i t from ry); subst q; rfl
  | inr x => obtain ⟨t, q⟩ := (show ∃ t, u = Value.str x t from ry); subst q; rfl
 have ha : argsOk "dict.pop" ⟨.ref a :: u :: more, []⟩ := by
  rcases hm with q | ⟨x, q⟩
  ·subst q; exact PySem.F.args_dict_pop_2 _ _
  ·subst q; exact PySem.F.args_dict_pop_3 _ _ _
 refine call_meetsIn PySem.F.slot_dict_pop dd.typeIs PySem.F.entry_dict_pop ha (meets_dict_pop_there (mixKind X.prog X.w) a (kV_is ry) more hm hp)
  ⟨vs, w', dd, by rw [← rel.length]; exact z, hw, fun h' dd' hs => h w' _ ?_ rw'⟩
 have he : ∃ q, h'.get? a = some q := let ⟨q, _, _, hq, _⟩ := dd'; ⟨q, hq⟩
 exact d_write I (by rw [e]; exact True.intro) hs he (dk_new (Nat.le_trans (dropK_le kvs k) z) hd (rel.drop k) dd')
end
noncomputable def NoSl (i : Expr) : Prop := ∀ ov iv, subscripted i false ov iv = operate [ov, iv] (getItem ov iv)
theorem subD_of {prog : Program} {w : World} {A : Around} {E : Value → Shared → Prop} {s : Shared} {env : Env} {value slice : Expr} {pos : Pos} {T id : String} {Q : Value → Shared → Prop}
  (hl : typeLookup (.type T) "__getitem__" = pure (some (.builtin id))) (hs : NoSl slice)
  (h : wpAny (model prog w) A (eval value env) (fun o s₁ => wpAny (model prog w) A (eval slice env) (fun i s₂ => s₂.TypeIs o T ∧ wpAny (model prog w) A (getItem o i) Q E s₂) E s₁) E s) :
  wpAny (model prog w) A (eval (.Subscript value slice pos) env) Q E s := by
 refine Subscript_ (wpAny_mono h (fun o s₁ h₁ => wpAny_mono h₁ (fun i s₂ h₂ => ?_) fun _ _ x => x) fun _ _ x => x)
 obtain ⟨hT, h₂⟩ := h₂
 unfold subscriptTail
 refine wpAny_bind ?_
 rw [getitemInPython_of_ne hT.not_modules]
 refine wpAny_bind (wpAny_specialOf hT hl ?_)
 have fin : wpAny (model prog w) A (subscripted slice false o i) (fun r s₃ => wpAny (model prog w) A (letTemporaryGo value o r >>= fun _ => pure r) Q E s₃) E s₂ := by
  rw [hs o i]
  exact wpAny_operating (wpAny_mono h₂ (fun r s₃ h₃ => wpAny_bind (wpAny_letTemporaryGo (wpAny_pure h₃))) fun _ _ x => x)
 first
  | exact wpAny_pure (wpAny_bind fin)
  | exact wpAny_bind (wpAny_pure (wpAny_bind fin))
  | exact wpAny_bind fin
theorem dict_typeIs {X : Cx} {pins : List (Addr × Obj)} {σ : St} {H : Hp} {s : Shared} {a : Addr} {y : V} {o : Option V} (I : Inv X pins σ H s) (g : DGet H a y o) : s.TypeIs (.ref a) "dict" := by
 rcases g with ⟨kvs, k, e, _, _⟩ | ⟨kvs, k, b, e, _, _, _⟩
 ·obtain ⟨_, _, vs, _, dd⟩ := dk_rd I.hok e
  exact dd.typeIs
 ·obtain ⟨_, _, xs, _, dd⟩ := dt_rd I.hok e
  exact dd.typeIs
section
variable {X : Cx} {o i e value : Expr} {pos pos' tpos : Pos} {td ty tv : TE}
end
theorem dk_empty {P : Program} {w : World} {H : Hp} (h : Heap) (hb : sysModules < h.objs.size) : ObjOk P w H (h.push { cls := .type "dict", data := .dict #[] }) h.objs.size (.dK []) :=
 ⟨Nat.zero_le _, beq_eq_false_iff_ne.mpr (Ne.symm (Nat.ne_of_lt hb)), [], .nil, Heap.DictOf.new h⟩
noncomputable def tDNewK : TE := fun _ H Q => ∀ p, H p = none → Q (.ref p) (upd H p (.dK []))
section
variable {X : Cx} {pos : Pos}
theorem pe_dnewK : PE X (.Dict [] [] pos) tDNewK := fun pins s σ H Q I h =>
 wpAny_Dict_empty ⟨.ref s.heap.objs.size, _, I.laid (a := s.heap.objs.size) (o := .dK []) (t' := s.toks) (fun _ _ q => Heap.get?_push_of_some _ q) (Nat.le_refl _) (dk_empty s.heap I.big), rfl, h _ (I.hok.fresh (Nat.le_refl _))⟩
end
noncomputable def tPairs : List (TE × TE) → St → Hp → (List (V × V) → Hp → Prop) → Prop
 | [], _, H, Q => Q [] H
 | (tk, tv) :: r, σ, H, Q => tk σ H fun x H1 => tv σ H1 fun y H2 => tPairs r σ H2 fun ps H3 => Q ((x, y) :: ps) H3
noncomputable def mergeK (kvs more : List (Key × V)) : List (Key × V) := more.foldl (fun acc kv => putK acc kv.1 kv.2) kvs
noncomputable def tDisp (trs : List (TE × TE)) : TE := fun σ H Q => ∀ p, H p = none → tPairs trs σ (upd H p (.dK [])) fun ps H2 => H2 p = some (.dK []) ∧ ∃ kvs : List (Key × V), ps = kvs.map (fun kv => (kV kv.1, kv.2)) ∧ kvs.length ≤ 15 ∧ Q (.ref p) (upd H2 p (.dK (mergeK [] kvs)))
noncomputable def IsD (H : Hp) (a : Addr) : Prop := (∃ kvs, Rd H a (.dK kvs)) ∨ ∃ kvs, Rd H a (.dT kvs)
theorem isD_at {X : Cx} {pins : List (Addr × Obj)} {σ : St} {H : Hp} {s : Shared} {a : Addr} (I : Inv X pins σ H s) (d : IsD H a) :
  s.TypeIs (.ref a) "dict" ∧ (∀ b, Value.ref a = .ref b → ∃ ob, s.heap.get? b = some ob ∧ ob.dict = none) ∧ (a == sysModules) = false := by
 rcases d with ⟨kvs, e⟩ | ⟨kvs, e⟩
 ·obtain ⟨_, hd, vs, _, dd⟩ := dk_rd I.hok e
  refine ⟨dd.typeIs, fun b q => ?_, hd⟩
  cases q
  obtain ⟨ob, _, _, h1, h2, _⟩ := dd
  exact ⟨ob, h1, h2.2.1⟩
 ·obtain ⟨_, hd, xs, _, dd⟩ := dt_rd I.hok e
  refine ⟨dd.typeIs, fun b q => ?_, hd⟩
  cases q
  obtain ⟨ob, _, _, h1, h2, _⟩ := dd
  exact ⟨ob, h1, h2.2.1⟩
section
variable {X : Cx} {pins : List (Addr × Obj)} {σ : St} {H : Hp} {s : Shared} {a : Addr} {y d : V} {u r : Value} {o : Option V} {A : Around} {E : Value → Shared → Prop}
end
section
variable {X : Cx} {o e f : Expr} {apos cpos : Pos} {td ty tx : TE}
end
section
variable {X : Cx} {pins : List (Addr × Obj)} {σ : St} {H : Hp} {s : Shared} {a : Addr} {kvs : List (Key × V)} {A : Around} {E : Value → Shared → Prop}
end
section
variable {X : Cx} {pins : List (Addr × Obj)} {σ : St} {H : Hp} {s : Shared} {a : Addr} {y : V} {u : Value} {A : Around} {E : Value → Shared → Prop}
end
end L2
namespace L2
open PySem PySem.Spec PyProof.Rows
section
variable {X : Cx}
end
section
variable {κ : Type} [DecidableEq κ]
end
end L2
set_option maxRecDepth 100000
namespace L2
open PySem PySem.Spec PyProof.Rows
noncomputable def FnAt (P : Program) (w : World) (K : PySem.W.Frag) (mg : Str → Option Value) (base : Heap) (CX : CXT) (x : Str) (k : Nat) (ps : List Str) (sp : Sp) : Prop :=
 ∃ f fd, FnOk P w K mg base CX k f fd ps sp ∧ mg x = some (.ref f) ∧ PySem.W.keepIn K (.ref f) = true ∧ Binds K fd ps [] ∧ ∃ oc od osl, K.lookup f = some ⟨oc, od, .func fd, osl⟩
noncomputable def DefAt (K : PySem.W.Frag) (mg : Str → Option Value) (x : Str) (st : Stmt) : Prop := ∃ f fd, Fun K x x st f fd ∧ mg x = some (.ref f)
class Quiet (CX : CXT) : Prop where
 pass : ∀ (X : Cx), Passes CX X E0
noncomputable instance : Quiet CX0 := ⟨fun _ => pass0⟩
theorem defat_mk {K : PySem.W.Frag} {h : Heap} {mg : Str → Option Value} {x : Str} {st : Stmt} {f : Addr} {oc : Value} {od an : Option Addr} {osl : Array (Option Value)} {kV doc pm cdv ct : Value} (X : K.In h) (G : h.Ns mainGlobals mg)
  (a : PySem.W.nsIn K mainGlobals x = some (some (.ref f)))
  (l : K.lookup f = some ⟨oc, od, .func (PySem.W.fnOf x x (defArgs st) (defBody st) (defScope st) .none kV doc pm an cdv ct), osl⟩) (c : PySem.W.codeIn K cdv x = true) (k : PySem.W.keepIn K (.ref f) = true) : DefAt K mg x st :=
 ⟨f, _, fun_mk l c k, PySem.W.mg_of X G a⟩
section
variable {P : Program} {w : World} {K : PySem.W.Frag} {mg : Str → Option Value} {base : Heap} {CX : CXT}
theorem DefAt.fn {x : Str} {st : Stmt} {N ps : List Str} {k : Nat} {sp : Sp} (F : DefAt K mg x st) (S : FnScope N ps (defScope st))
  (hb : ∀ (kV doc pm : Value) (an : Option Addr) (cdv ct : Value) (us : List Value), us.length = ps.length → bindArgs (PySem.W.fnOf x x (defArgs st) (defBody st) (defScope st) .none kV doc pm an cdv ct) ⟨us, []⟩ = pure (ps.zip us))
  (len : ∀ vs H Q E, sp vs H Q E → vs.length = ps.length)
  (hbody : ∀ (f : Addr) (cdv : Value) (A : Around) (outer : List Env) (s : Shared) (H : Hp) (vs : List V) (Q : VK) (E : XK), Room k (A.deeper (envOfC x (defScope st) s.heap.objs.size f cdv)) → sp vs H Q E →
   ∃ t, PSs (cxOf CX P w K mg base N x (defScope st) f cdv A outer s H E).nox (defBody st) t ∧ t { nx := fun _ H' => Q .non H', rt := Q } (start N vs) H) : FnAt P w K mg base CX x (k + 1) ps sp := by
 obtain ⟨f, fd, F, hm⟩ := F
 have bd := F.binds hb
 have kp := F.kp
 obtain ⟨oc, od, kV, doc, pm, an, cdv, ct, osl, rfl, lk, hcd⟩ := F.ex
 refine ⟨f, _, fn_of lk hcd S len fun A outer s H vs Q E hr hsp => ?_, hm, kp, bd, oc, od, osl, lk⟩
 obtain ⟨t, h, q⟩ := hbody f cdv A outer s H vs Q E hr hsp
 exact ⟨t, h.nox, q⟩
end
section
variable {X : Cx} {CX : CXT} {k n : Nat} {ps : List Str} {sp : Sp} {x : Str} {p pos : Pos} {e : Expr} {es : List Expr} {t : TA}
theorem pe_fn [Quiet CX] (G : FnAt X.prog X.w X.K X.mg X.base CX x k ps sp) (hr : Room n X.A) (hk : k ≤ n) (hg : Gl X x) (ha : PA X (e :: es) t)
  (hdb : (x == ("__debug__" : Str)) = false := by decide) (he : starEach (e :: es) X.env = (false, eval e X.env) :: starEach es X.env := by rfl) (hpl : (backTo pos (starEach es X.env)).any (·.1) = false := by rfl) :
  PE X (.Call (.Name x p) (e :: es) [] pos) (tCall sp [] E0 t) := by
 obtain ⟨f, fd, F, hm, kp, b, _⟩ := G
 exact pe_call F (hr.mono hk) hg hm kp b .nil (Quiet.pass X) ha hdb he hpl
noncomputable def CstAt (mg : Str → Option Value) (x : Str) (v : V) : Prop := ∃ u, mg x = some u ∧ RelV v u
theorem pe_cst {v : V} (hg : Gl X x) (h : CstAt X.mg x v) (hd : (x == ("__debug__" : Str)) = false := by decide) : PE X (.Name x pos) (tC v) := by
 obtain ⟨u, hm, r⟩ := h
 exact pe_glob hg hm r hd
end
noncomputable def ItrS (lo c : Int) (n : Nat) : It := ⟨fun i _ => i < n, fun i H x H' => H' = H ∧ x = .int (lo + i * c), fun i _ => n ≤ i⟩
noncomputable def rcount (lo hi c : Int) : Nat := (Builtin.Range.rangeSize lo hi c).toNat
section
variable {X : Cx} {tg : Expr}
end
end L2
set_option maxRecDepth 100000
namespace L2
open PySem PySem.Spec PyProof.Rows
section
variable {g : Int → Int → V} {C : Int → Int → Prop} {i j : Int} {H : Hp} {Q : VK}
theorem rI0_int : rI0 g (.int i) (.int j) H Q = Q (g i j) H := by
 apply propext
 constructor
 ·rintro ⟨a, b, e1, e2, q⟩
  cases e1; cases e2; exact q
 ·intro q; exact ⟨i, j, rfl, rfl, q⟩
theorem rI_int : rI C g (.int i) (.int j) H Q = (C i j ∧ Q (g i j) H) := by
 apply propext
 constructor
 ·rintro ⟨a, b, e1, e2, q⟩
  cases e1; cases e2; exact q
 ·intro q; exact ⟨i, j, rfl, rfl, q⟩
theorem rU_int {f : Int → V} : rU f (.int i) H Q = Q (f i) H := by
 apply propext
 constructor
 ·rintro ⟨a, e1, q⟩
  cases e1; exact q
 ·intro q; exact ⟨i, rfl, q⟩
theorem ex_bl {b : Bool} {P : Bool → Prop} : (∃ k, V.bl b = .bl k ∧ P k) = P b := by
 apply propext
 constructor
 ·rintro ⟨k, e, q⟩
  cases e; exact q
 ·intro q; exact ⟨b, rfl, q⟩
theorem ex_sv {v : V} {P : V → Prop} : (∃ u, some (some v) = some (some u) ∧ P u) = P v := by
 apply propext
 constructor
 ·rintro ⟨k, e, q⟩
  cases e; exact q
 ·intro q; exact ⟨v, rfl, q⟩
theorem rEq_int : rEq (.int i) (.int j) H Q = Q (.bl (decide (i = j))) H := by
 have e : decide (V.int i = V.int j) = decide (i = j) := by
  by_cases h : i = j
  ·subst h; simp
  ·rw [decide_eq_false h, decide_eq_false (fun q => h (V.int.inj q))]
 unfold rEq
 rw [e]
 apply propext
 exact ⟨fun h => h.2, fun h => ⟨rfl, h⟩⟩
theorem rNe_int : rNe (.int i) (.int j) H Q = Q (.bl (!decide (i = j))) H := by
 have e : decide (V.int i = V.int j) = decide (i = j) := by
  by_cases h : i = j
  ·subst h; simp
  ·rw [decide_eq_false h, decide_eq_false (fun q => h (V.int.inj q))]
 unfold rNe
 rw [e]
 apply propext
 exact ⟨fun h => h.2, fun h => ⟨rfl, h⟩⟩
theorem rEq_str {a b : Str} : rEq (.str a) (.str b) H Q = Q (.bl (decide (a = b))) H := by
 have e : decide (V.str a = V.str b) = decide (a = b) := by
  by_cases h : a = b
  ·subst h; simp
  ·rw [decide_eq_false h, decide_eq_false (fun q => h (V.str.inj q))]
 unfold rEq
 rw [e]
 apply propext
 exact ⟨fun h => h.2, fun h => ⟨rfl, h⟩⟩
theorem rNe_str {a b : Str} : rNe (.str a) (.str b) H Q = Q (.bl (!decide (a = b))) H := by
 have e : decide (V.str a = V.str b) = decide (a = b) := by
  by_cases h : a = b
  ·subst h; simp
  ·rw [decide_eq_false h, decide_eq_false (fun q => h (V.str.inj q))]
 unfold rNe
 rw [e]
 apply propext
 exact ⟨fun h => h.2, fun h => ⟨rfl, h⟩⟩
theorem rEq_bl {a b : Bool} : rEq (.bl a) (.bl b) H Q = Q (.bl (decide (a = b))) H := by
 have e : decide (V.bl a = V.bl b) = decide (a = b) := by
  by_cases h : a = b
  ·subst h; simp
  ·rw [decide_eq_false h, decide_eq_false (fun q => h (V.bl.inj q))]
 unfold rEq
 rw [e]
 apply propext
 exact ⟨fun h => h.2, fun h => ⟨rfl, h⟩⟩
theorem rNe_bl {a b : Bool} : rNe (.bl a) (.bl b) H Q = Q (.bl (!decide (a = b))) H := by
 have e : decide (V.bl a = V.bl b) = decide (a = b) := by
  by_cases h : a = b
  ·subst h; simp
  ·rw [decide_eq_false h, decide_eq_false (fun q => h (V.bl.inj q))]
 unfold rNe
 rw [e]
 apply propext
 exact ⟨fun h => h.2, fun h => ⟨rfl, h⟩⟩
end
theorem OpR.imp {X : Cx} {f : Value → Value → Sem Value} {r r' : R2} (h : OpR X f r) (i : ∀ x y H Q, r' x y H Q → r x y H Q) : OpR X f r' :=
 fun pins s σ H x y v u Q I rx ry q => h pins s σ H x y v u Q I rx ry (i _ _ _ _ q)
theorem CallR.imp {X : Cx} {f : Value} {r r' : List V → Hp → VK → Prop} (h : CallR X f r) (i : ∀ xs H Q, r' xs H Q → r xs H Q) : CallR X f r' :=
 fun pins s σ H xs us Q I rs q => h pins s σ H xs us Q I rs (i _ _ _ q)
noncomputable def rAddA (K : PySem.W.Frag) : R2 := fun x y H Q => match x, y with
 | .int i, .int j => Q (.int (i + j)) H
 | .str a, .str b => a.length + b.length ≤ sizeLine ∧ Q (.str (a ++ b)) H
 | .ref l, .ref b => rCat (.ref l) (.ref b) H Q ∨ rCatT K (.ref l) (.ref b) H Q
 | _, _ => False
section
variable {X : Cx}
theorem op_addA : OpR X (binaryOp .Add) (rAddA X.K) := by
 refine OpR.imp (op_add.or (op_add_str.or (op_cat.or op_catT))) fun x y H Q h => ?_
 unfold rAddA at h
 split at h
 ·exact .inl ⟨_, _, rfl, rfl, h⟩
 ·exact .inr (.inl ⟨_, _, rfl, rfl, h⟩)
 ·exact .inr (.inr h)
 ·exact h.elim
noncomputable def CShl (i j : Int) : Prop := (0 ≤ j ∧ j ≤ 1000000) ∧ -(2 ^ 512) < i ∧ i < 2 ^ 512
theorem CShl.bits {i j : Int} (h : CShl i j) : (Builtin.Int.intBits i : Int) + j ≤ 2 ^ 27 := by
 have hb : Builtin.Int.intBits i ≤ 512 := by
  unfold Builtin.Int.intBits
  split
  ·omega
  ·rename_i hz
   have hz' : i ≠ 0 := fun q => hz (by rw [q]; rfl)
   have : i.natAbs.log2 < 512 := (Nat.log2_lt (by omega)).mpr (by have := h.2; omega)
   omega
 have := h.1.2
 omega
theorem op_shlA : OpR X (binaryOp .LShift) (rI CShl fun i j => .int (i * 2 ^ j.toNat)) := opI fun _ _ _ _ _ _ _ hc q => lshift_int hc.1.1 hc.bits q
end
noncomputable def CPowA (i j : Int) : Prop := (0 ≤ j ∧ j ≤ 1000000) ∧ -(2 ^ 64) < i ∧ i < 2 ^ 64
theorem op_powA {X : Cx} : OpR X (binaryOp .Pow) (rI CPowA fun i j => .int (i ^ j.toNat)) := opI fun _ _ _ _ _ _ _ hc q => pow_int_small hc.1.1 hc.1.2 (by have := hc.2; omega) q
noncomputable def rLenA (K : PySem.W.Frag) : List V → Hp → VK → Prop := fun xs H Q => match xs with
 | [.str z] => z.length ≤ sizeLine ∧ Q (.int z.length) H
 | [.ref p] => ∃ ys, (SqL K H p ys ∨ SqT K H p ys) ∧ Q (.int ys.length) H
 | _ => False
section
variable {X : Cx}
theorem call_lenA : CallR X (.builtin "len") (rLenA X.K) := by
 refine CallR.imp (call_len_seq.or call_len_str) fun xs H Q h => ?_
 unfold rLenA at h
 split at h
 ·exact .inr ⟨_, rfl, h.1, h.2⟩
 ·obtain ⟨ys, h1, h2⟩ := h
  exact .inl ⟨_, ys, rfl, h1, h2⟩
 ·exact h.elim
noncomputable def rMinA : List V → Hp → VK → Prop := fun xs H Q => match xs with
 | [.int i, .int j] => Q (.int (if j < i then j else i)) H
 | _ => False
noncomputable def rMaxA : List V → Hp → VK → Prop := fun xs H Q => match xs with
 | [.int i, .int j] => Q (.int (if i < j then j else i)) H
 | _ => False
theorem call_minA (hc : X.calm = true) : CallR X (.builtin "min") rMinA := by
 refine CallR.imp (call_min2 hc) fun xs H Q h => ?_
 unfold rMinA at h
 split at h
 ·exact ⟨_, _, rfl, h⟩
 ·exact h.elim
theorem call_maxA (hc : X.calm = true) : CallR X (.builtin "max") rMaxA := by
 refine CallR.imp (call_max2 hc) fun xs H Q h => ?_
 unfold rMaxA at h
 split at h
 ·exact ⟨_, _, rfl, h⟩
 ·exact h.elim
noncomputable def isiF : V → String → Option Bool
 | .int _, "int" => some true
 | .int _, "bool" => some false
 | .int _, "str" => some false
 | .bl _, "int" => some true
 | .bl _, "bool" => some true
 | .str _, "str" => some true
 | .str _, "int" => some false
 | _, _ => none
noncomputable def rIsi (K : PySem.W.Frag) : List V → Hp → VK → Prop := fun xs H Q => match xs with
 | [x, .ty T] => (match isiF x T with
  | some b => Q (.bl b) H
  | none => ∃ t b, TyOf K H x t ∧ PySem.W.kitOne K t (.type T) = some b ∧ Q (.bl b) H)
 | _ => False
theorem kit_ii (K : PySem.W.Frag) : PySem.W.kitOne K (.type "int") (.type "int") = some true := by first | rfl | kernel_rfl
theorem kit_ib (K : PySem.W.Frag) : PySem.W.kitOne K (.type "int") (.type "bool") = some false := by first | rfl | kernel_rfl
theorem kit_is (K : PySem.W.Frag) : PySem.W.kitOne K (.type "int") (.type "str") = some false := by first | rfl | kernel_rfl
theorem kit_bi (K : PySem.W.Frag) : PySem.W.kitOne K (.type "bool") (.type "int") = some true := by first | rfl | kernel_rfl
theorem kit_bb (K : PySem.W.Frag) : PySem.W.kitOne K (.type "bool") (.type "bool") = some true := by first | rfl | kernel_rfl
theorem kit_ss (K : PySem.W.Frag) : PySem.W.kitOne K (.type "str") (.type "str") = some true := by first | rfl | kernel_rfl
theorem kit_si (K : PySem.W.Frag) : PySem.W.kitOne K (.type "str") (.type "int") = some false := by first | rfl | kernel_rfl
theorem kit_ll (K : PySem.W.Frag) : PySem.W.kitOne K (.type "list") (.type "list") = some true := by first | rfl | kernel_rfl
theorem kit_tt (K : PySem.W.Frag) : PySem.W.kitOne K (.type "tuple") (.type "tuple") = some true := by first | rfl | kernel_rfl
theorem call_isi : CallR X (.builtin "isinstance") (rIsi X.K) := by
 intro pins s σ H xs us Q I rs q
 unfold rIsi at q
 split at q
 ·rename_i x T
  obtain ⟨u, c, rfl, ru, rc⟩ := vals2 rs
  obtain rfl : c = Value.type T := rc
  have key : ∀ {t b}, TyOf X.K H x t → PySem.W.kitOne X.K t (.type T) = some b → Q (.bl b) H → wpAny (model X.prog X.w) X.A (call (.builtin "isinstance") [u, .type T]) (EP X pins σ Q) X.xe s := fun {t b} ty e h =>
   isinst_ok I ru ty e fun tk => ⟨.bl b, H, I.tok tk, rfl, h⟩
  split at q
  ·rename_i b e
   have h := q
   unfold isiF at e
   split at e <;> cases e
   ·exact key (.int _) (kit_ii _) h
   ·exact key (.int _) (kit_ib _) h
   ·exact key (.int _) (kit_is _) h
   ·exact key (.bl _) (kit_bi _) h
   ·exact key (.bl _) (kit_bb _) h
   ·exact key (.str _) (kit_ss _) h
   ·exact key (.str _) (kit_si _) h
  ·obtain ⟨t, b, ty, e, h⟩ := q
   exact key ty e h
 ·exact q.elim
theorem pe_ty {x : Str} {T : String} {pos : Pos} (hg : Gl X x) (hm : X.mg x = none) (hv : bootBuiltins x = some (.type T)) (hn : x ≠ "__name__" := by decide) (hd : (x == ("__debug__" : Str)) = false := by decide) : PE X (.Name x pos) (tC (.ty T)) :=
 pe_bltn hg hm hv rfl hn hd
end
theorem bt_len : bootBuiltins "len" = some (.builtin "len") := by decide +kernel
theorem bt_min : bootBuiltins "min" = some (.builtin "min") := by decide +kernel
theorem bt_max : bootBuiltins "max" = some (.builtin "max") := by decide +kernel
theorem bt_abs : bootBuiltins "abs" = some (.builtin "abs") := by decide +kernel
theorem bt_isinstance : bootBuiltins "isinstance" = some (.builtin "isinstance") := by decide +kernel
theorem bt_str : bootBuiltins "str" = some (.type "str") := by decide +kernel
theorem bt_list : bootBuiltins "list" = some (.type "list") := by decide +kernel
theorem bt_tuple : bootBuiltins "tuple" = some (.type "tuple") := by decide +kernel
section
variable {K : PySem.W.Frag} {H : Hp} {Q : VK}
theorem rAddA_int {i j : Int} : rAddA K (.int i) (.int j) H Q = Q (.int (i + j)) H := rfl
theorem rAddA_str {i j : Str} : rAddA K (.str i) (.str j) H Q = (i.length + j.length ≤ sizeLine ∧ Q (.str (i ++ j)) H) := rfl
theorem rLenA_str {z : Str} : rLenA K [.str z] H Q = (z.length ≤ sizeLine ∧ Q (.int z.length) H) := rfl
theorem rLenA_ref {p : Addr} : rLenA K [.ref p] H Q = (∃ ys, (SqL K H p ys ∨ SqT K H p ys) ∧ Q (.int ys.length) H) := rfl
theorem rIsi_ii {i : Int} : rIsi K [.int i, .ty "int"] H Q = Q (.bl true) H := rfl
theorem rIsi_ib {i : Int} : rIsi K [.int i, .ty "bool"] H Q = Q (.bl false) H := rfl
theorem rIsi_is {i : Int} : rIsi K [.int i, .ty "str"] H Q = Q (.bl false) H := rfl
theorem rIsi_bi {i : Bool} : rIsi K [.bl i, .ty "int"] H Q = Q (.bl true) H := rfl
theorem rIsi_bb {i : Bool} : rIsi K [.bl i, .ty "bool"] H Q = Q (.bl true) H := rfl
theorem rIsi_ss {i : Str} : rIsi K [.str i, .ty "str"] H Q = Q (.bl true) H := rfl
theorem rIsi_si {i : Str} : rIsi K [.str i, .ty "int"] H Q = Q (.bl false) H := rfl
theorem rMinA_int {i j : Int} : rMinA [.int i, .int j] H Q = Q (.int (if j < i then j else i)) H := rfl
theorem rMaxA_int {i j : Int} : rMaxA [.int i, .int j] H Q = Q (.int (if i < j then j else i)) H := rfl
end
theorem cxOf_K {CX : CXT} {P : Program} {w : World} {K : PySem.W.Frag} {mg : Str → Option Value} {base : Heap} {N : List Str} {qual : Str} {scope : Scope} {f : Addr} {cd : Value} {A : Around} {outer : List Env} {s : Shared} {H : Hp} {E : XK} :
  (cxOf CX P w K mg base N qual scope f cd A outer s H E).K = K := rfl
end L2
set_option maxRecDepth 100000
namespace L2
open PySem PySem.Spec PyProof.Rows
section
variable {ta : TA} {tl : TE} {K : PySem.W.Frag} {g : TG} {tb : TS} {D : Ends} {σ : St} {H : Hp}
end
theorem law_fin {P : Program} {w : World} {K : PySem.W.Frag} {mg : Str → Option Value} {CX : CXT} {k : Nat} {fa : Addr} {x nm : Str} {st : Stmt} {sp : Sp} (hmg : mg nm = some (.ref fa)) (D : DefAt K mg nm st)
  (hb : ∀ (kV doc pm : Value) (an : Option Addr) (cdv ct : Value) (us : List Value), us.length = ([x] : List Str).length → bindArgs (PySem.W.fnOf nm nm (defArgs st) (defBody st) (defScope st) .none kV doc pm an cdv ct) ⟨us, []⟩ = pure (([x] : List Str).zip us))
  (ok : ∀ base : Heap, FnAt P w K mg base CX nm k [x] sp) :
  ∃ fd : FuncData, (∀ (s : Shared) (u : Value), BindsTo s fd ⟨[u], []⟩ [(x, u)]) ∧ ∀ base : Heap, K.In base → base.Ns mainGlobals mg → FnOk P w K mg base CX k fa fd [x] sp := by
 obtain ⟨f, fd, F, hm⟩ := D
 rw [hmg] at hm
 cases hm
 obtain ⟨oc, od, kV, doc, pm, an, cdv, ct, osl, e, lk, hcd⟩ := F.ex
 refine ⟨fd, fun s u => ?_, fun base _ _ => ?_⟩
 ·rw [e]
  exact .of_eq (hb kV doc pm an cdv ct [u] rfl)
 ·obtain ⟨f', fd', h, hm', _, _, oc', od', osl', lk'⟩ := ok base
  rw [hmg] at hm'
  cases hm'
  rw [lk] at lk'
  cases lk'
  exact h
noncomputable def spLaw (K : PySem.W.Frag) : Sp := fun vs H Q _ => match vs with
 | [.ref a] => ∃ ns : List Int, SqL K H a (ns.map V.int) ∧ ns.length ≤ 63 ∧ Only H ∧ ∀ H', Q (.bl true) H'
 | _ => False
theorem law_walk {l : PySem.W.OpenLaw} {k : Nat} {q : Program} {loose : List Str} {XP : (Str → Option Value) → Heap → Prop} {YP : World → Heap → Prop} {d : DefRec} {K : Params → PySem.W.Frag} {x : Str} (hn : l.most = some 63) (hdf : d.params.defaults = [])
  (hr : Room k callerA) (hY : ∀ (w : World) (h : Heap), YP w h → (K w.params).In h)
  (F : ∀ (w : World) (mg : Str → Option Value) (fa : Addr) (h : Heap), (K w.params).In h → h.Ns mainGlobals mg → mg d.name = some (.ref fa) →
   ∃ fd : FuncData, (∀ (s : Shared) (u : Value), BindsTo s fd ⟨[u], []⟩ [(x, u)]) ∧ ∀ base : Heap, (K w.params).In base → base.Ns mainGlobals mg → FnOk l.prog w (K w.params) mg base CX0 k fa fd [x] (spLaw (K w.params))) :
  PySem.W.WalkO q loose XP YP l.row.toRowW d [] (fun f vs => PySem.call f vs) :=
 L2.walk_ofK (n := 63) (CX := CX0) (sp := spLaw) hn (by decide) hdf hr hY F (fun K H a ns hl hO hS => ⟨ns, hS, hl, hO, fun _ => rfl⟩) fun _ _ _ _ z => z
end L2
set_option maxRecDepth 100000
namespace L2
open PySem PySem.Spec PyProof.Rows
noncomputable def Cx.comp (X : Cx) (scope : Scope) (cl : List (Str × Addr)) (C : Addr) (N : List Str) (s : Shared) (H : Hp) (ex : List Addr) : Cx :=
 { prog := X.prog, w := X.w, K := X.K, mg := X.mg, base := X.base, A := X.A, N := N, s₀ := s, H₀ := H, env := compEnvC scope cl C X.env, outer := X.stack, stack := X.stack, ex := ex, fn := fun _ => false, calm := X.calm, pn := [], xe := fun _ _ => False }
theorem closure_ok {env : Env} {scope : Scope} (h : ∀ y ∈ scope.names, y.2 = .free → ∃ c, env.cells.lookup y.1 = some c) :
  ∃ cl, closureFor scope env = pure cl ∧ (∀ y c, cl.lookup y = some c → env.cells.lookup y = some c) ∧ ∀ y ∈ scope.names, y.2 = .free → ∃ c, cl.lookup y.1 = some c := by
 have key : ∀ (l : List (Str × NameKind)) (acc : List (Str × Addr)), (∀ y ∈ l, y.2 = .free → ∃ c, env.cells.lookup y.1 = some c) → (∀ y c, acc.lookup y = some c → env.cells.lookup y = some c) →
   ∃ cl, (forIn l acc fun (x : Str × NameKind) (cs : List (Str × Addr)) => if (x.2 == NameKind.free) = true then do let a ← cellOf env x.1; pure (ForInStep.yield ((x.1, a) :: cs)) else pure (ForInStep.yield cs)) = (pure cl : Sem (List (Str × Addr))) ∧
    (∀ y c, cl.lookup y = some c → env.cells.lookup y = some c) ∧ (∀ y c, acc.lookup y = some c → ∃ c, cl.lookup y = some c) ∧ ∀ y ∈ l, y.2 = .free → ∃ c, cl.lookup y.1 = some c := by
  intro l
  induction l with
  | nil => intro acc _ ha; exact ⟨acc, rfl, ha, fun y c e => ⟨c, e⟩, fun y hy => nomatch hy⟩
  | cons x r ih =>
   intro acc hl ha
   obtain ⟨n, k⟩ := x
   by_cases hk : k = .free
   ·subst hk
    obtain ⟨c, hc⟩ := hl (n, .free) List.mem_cons_self rfl
    have ha' : ∀ y d, ((n, c) :: acc).lookup y = some d → env.cells.lookup y = some d := fun y d e => by
     simp only [List.lookup_cons] at e
     cases q : y == n with
     | true => rw [q] at e; cases e; rw [beq_iff_eq.mp q]; exact hc
     | false => rw [q] at e; exact ha y d e
    obtain ⟨cl, e, h1, h2, h3⟩ := ih ((n, c) :: acc) (fun y hy => hl y (List.mem_cons_of_mem _ hy)) ha'
    have top : ∃ d, cl.lookup n = some d := h2 n c (by simp [List.lookup_cons])
    refine ⟨cl, ?_, h1, fun y d q => ?_, fun y hy hf => ?_⟩
    ·rw [List.forIn_cons]
     have ec : cellOf env n = pure c := by unfold cellOf; rw [hc]
     show ((if (NameKind.free == NameKind.free) = true then (do let a ← cellOf env n; pure (ForInStep.yield ((n, a) :: acc))) else _) >>= _) = _
     rw [if_pos (by decide), ec]
     exact e
    ·cases z : y == n with
     | true => rw [beq_iff_eq.mp z]; exact top
     | false => exact h2 y d (by simp only [List.lookup_cons, z]; exact q)
    ·rcases List.mem_cons.mp hy with rfl | hy
     ·exact top
     ·exact h3 y hy hf
   ·have hb : (k == NameKind.free) = false := by simpa using hk
    obtain ⟨cl, e, h1, h2, h3⟩ := ih acc (fun y hy => hl y (List.mem_cons_of_mem _ hy)) ha
    refine ⟨cl, ?_, h1, h2, fun y hy hf => ?_⟩
    ·rw [List.forIn_cons]
     show ((if (k == NameKind.free) = true then _ else pure (ForInStep.yield acc)) >>= _) = _
     rw [hb, if_neg Bool.false_ne_true]
     exact e
    ·rcases List.mem_cons.mp hy with rfl | hy
     ·exact absurd hf hk
     ·exact h3 y hy hf
 obtain ⟨cl, e, h1, _, h3⟩ := key scope.names [] h (fun y c q => by simp at q)
 refine ⟨cl, ?_, h1, h3⟩
 unfold closureFor
 exact (bind_congr (fun _ => rfl)).trans (by rw [e]; rfl)
theorem relabel_look {scope : Scope} {env : Env} {x : Str} {k : NameKind} (h : (relabel scope env).names.lookup x = some k) : scope.names.lookup x = some k ∨ (scope.names.lookup x = some .free ∧ k = .cell) := by
 unfold relabel at h
 have key : ∀ l : List (Str × NameKind), (l.map fun (n, k) => if (k == NameKind.free && env.scope.kind == .function && env.kindOf n == some .cell) then (n, NameKind.cell) else (n, k)).lookup x = some k → l.lookup x = some k ∨ (l.lookup x = some .free ∧ k = .cell) := by
  intro l
  induction l with
  | nil => intro h; simp at h
  | cons y r ih =>
   obtain ⟨n, j⟩ := y
   intro h
   rw [List.map_cons] at h
   simp only [List.lookup_cons]
   cases q : x == n with
   | true =>
    by_cases hc : (j == NameKind.free && env.scope.kind == .function && env.kindOf n == some .cell) = true
    ·simp only [hc, if_true, List.lookup_cons, q] at h
     cases h
     have : j = .free := by
      simp only [Bool.and_eq_true, beq_iff_eq] at hc
      exact hc.1.1
     subst this
     exact .inr ⟨rfl, rfl⟩
    ·have hc' : (j == NameKind.free && env.scope.kind == .function && env.kindOf n == some .cell) = false := by simpa using hc
     simp only [hc', Bool.false_eq_true, if_false, List.lookup_cons, q] at h
     exact .inl h
   | false =>
    by_cases hc : (j == NameKind.free && env.scope.kind == .function && env.kindOf n == some .cell) = true
    ·simp only [hc, if_true, List.lookup_cons, q] at h
     exact ih h
    ·have hc' : (j == NameKind.free && env.scope.kind == .function && env.kindOf n == some .cell) = false := by simpa using hc
     simp only [hc', Bool.false_eq_true, if_false, List.lookup_cons, q] at h
     exact ih h
 exact key _ h
theorem lt_ne {h : Heap} {b n : Addr} {o : Obj} (e : h.get? b = some o) (hn : h.objs.size ≤ n) : b ≠ n := Nat.ne_of_lt (Nat.lt_of_lt_of_le (Heap.lt_size e) hn)
structure CScope (X : Cx) (scope : Scope) (N : List Str) (nv : Nat) (ix : List Nat) : Prop where
 kind : scope.kind = .function
 nocell : ∀ y ∈ scope.names, y.2 ≠ .cell
 names : ∀ y ∈ scope.names, y.2 = .local → scope.names.lookup y.1 = some .local
 fre : ∀ y ∈ scope.names, y.2 = .free → X.env.kindOf y.1 = some .cell ∨ X.env.kindOf y.1 = some .free
 len : N.length = nv + ix.length
 at_ : ∀ j y, N[nv + j]? = some y → ∃ i, ix[j]? = some i ∧ X.N[i]? = some y ∧ (X.env.kindOf y = some .cell ∨ X.env.kindOf y = some .free) ∧ scope.names.lookup y = some .free
noncomputable def compSt (nv : Nat) (ix : List Nat) (σ : St) : St := List.replicate nv none ++ ix.map fun i => (σ[i]?).join
section
variable {X : Cx} {pins : List (Addr × Obj)} {σ : St} {H : Hp} {s : Shared} {scope : Scope} {N : List Str} {nv : Nat} {ix : List Nat}
theorem comp_start {h1 : Heap} {tk : Nat} {cl : List (Str × Addr)} {fp : List Addr} {C D : Addr} {oD : Obj} (S : CScope X scope N nv ix) (I : Inv X pins σ H s) (hcl : ∀ y c, cl.lookup y = some c → X.env.cells.lookup y = some c)
  (hcl2 : ∀ y ∈ scope.names, y.2 = .free → ∃ c, cl.lookup y.1 = some c) (hfp : ∀ b ∈ fp, FpOk X pins H b) (hob : ∀ b ∈ fp, b < s.heap.objs.size)
  (hC : s.heap.objs.size ≤ C) (hD : s.heap.objs.size ≤ D) (hDC : D ≠ C) (old : ∀ b o, s.heap.get? b = some o → h1.get? b = some o) {m : Str → Option Value} (hm : h1.Ns C m) (hoD : h1.get? D = some oD) (hdat : ∀ v, oD.data ≠ .cell v) :
  Inv (X.comp scope cl C N s H fp) [(D, oD)] (compSt nv ix σ) H { s with heap := h1, toks := tk } := by
 refine ⟨⟨I.ok.mod, S.kind, I.ok.glob, I.ok.blt, hC, fun x y c e1 e2 => I.ok.inj x y c (hcl x c e1) (hcl y c e2), fun x hx => ?_, fun _ _ z => absurd z Bool.false_ne_true, I.ok.hd, I.ok.frames, .inl rfl, fun b hb => ⟨fun z => ?_, fun x c e => (hfp b hb).2.2.2.2.1 x c (hcl x c e)⟩, I.bs,
  Nat.le_trans I.ok.bsz I.sz, fun b o e hb => ?_, fun b hb z => ?_, I.stack, I.stkFree⟩, rfl, I.bare, Un.kept old, ⟨m, hm, fun i x v e1 e2 e3 => ?_⟩, fun x c e => ?_, I.hok.fresh hC, fun x c e => I.freeC x c (hcl x c e), fun p hp => ?_, I.hok.kept old, ?_⟩
 ·have hx' : (relabel scope X.env).names.lookup x = some .cell ∨ (relabel scope X.env).names.lookup x = some .free := hx
  have fr : scope.names.lookup x = some .free := by
   rcases hx' with z | z
   ·rcases relabel_look z with q | q
    ·exact absurd rfl (S.nocell _ (PySem.mem_of_lookup q))
    ·exact q.1
   ·rcases relabel_look z with q | q
    ·exact q
    ·cases q.2
  exact hcl2 (x, .free) (PySem.mem_of_lookup fr) rfl
 ·exact Nat.ne_of_lt (Nat.lt_of_lt_of_le (hob b hb) hC) z
 ·rcases (hfp b hb).2.2.2.1 with z | z
  ·exact I.ok.noex b o e z
  ·exact lt_ne e (Nat.le_trans I.ok.bsz z) rfl
 ·rcases List.mem_cons.mp (I.stkSub b z) with q | q
  ·exact (hfp b hb).2.1 q
  ·exact (hfp b hb).2.2.1 q
 ·have e1' : N[i]? = some x := e1
  by_cases hi : i < nv
  ·have e2' : (compSt nv ix σ)[i]? = some (some v) := e2
   unfold compSt at e2'
   rw [List.getElem?_append_left (by simpa using hi), List.getElem?_replicate, if_pos hi] at e2'
   cases e2'
  ·obtain ⟨j, rfl⟩ : ∃ j, i = nv + j := ⟨i - nv, by omega⟩
   obtain ⟨k, hk, hN, hkd, hsc⟩ := S.at_ j x e1'
   have e2' : (compSt nv ix σ)[nv + j]? = some (some v) := e2
   unfold compSt at e2'
   rw [List.getElem?_append_right (by simp), List.length_replicate, Nat.add_sub_cancel_left, List.getElem?_map, hk] at e2'
   have e4 : σ[k]? = some (some v) := by
    have e5 : (σ[k]?).join = some v := by simpa using e2'
    cases q : σ[k]? with
    | none => rw [q] at e5; cases e5
    | some z => rw [q] at e5; have : z = some v := e5; rw [this]
   obtain ⟨m0, _, hl⟩ := I.loc
   have vis : Vis X.env.scope x := by
    rcases hkd with z | z
    ·exact .inr (.inl z)
    ·exact .inr (.inr z)
   obtain ⟨u, r, l⟩ := hl k x v hN e4 vis
   refine ⟨u, r, ?_⟩
   rcases l with ⟨z, _⟩ | ⟨_, c, hc, hcell⟩
   ·rcases hkd with q | q <;> rw [q] at z <;> cases z
   ·obtain ⟨c', hc'⟩ := hcl2 (x, .free) (PySem.mem_of_lookup hsc) rfl
    have := hcl x c' hc'
    rw [hc] at this
    cases this
    refine .inr ⟨?_, c, hc', hcell.keeps old⟩
    rcases e3 with z | z | z
    ·rcases relabel_look z with q | q
     ·rw [hsc] at q; cases q
     ·cases q.2
    ·exact .inl z
    ·exact .inr z
 ·obtain ⟨v, q⟩ := I.cell x c (hcl x c e)
  exact ⟨v, q.keeps old⟩
 ·have hp' : p ∈ [(D, oD)] := hp
  have e : p = (D, oD) := by simpa using hp'
  subst e
  refine ⟨hoD, I.hok.fresh hD, hDC, fun z => ?_, hdat⟩
  rcases List.mem_cons.mp (I.stkSub D z) with q | q
  ·exact Nat.ne_of_gt (Nat.lt_of_lt_of_le I.lt hD) q
  ·exact I.nofs hD q
 ·show (compSt nv ix σ).length = N.length
  unfold compSt
  rw [List.length_append, List.length_replicate, List.length_map, S.len]
theorem comp_end {cl : List (Str × Addr)} {fp : List Addr} {C D : Addr} {its : List Value} {ys : List V} {n : Nat} {σ' : St} {H' : Hp} {s' : Shared} (I : Inv X pins σ H s) (hfp : ∀ b ∈ fp, FpOk X pins H b) (hD : s.heap.objs.size ≤ D)
  (J : Inv (X.comp scope cl C N s H fp) [(D, { cls := .type "list", data := .seq its.toArray n })] σ' H' s') (r : Vals ys its) (hl : ys.length ≤ sizeLine) : Inv X pins σ (upd H' D (.lst ys)) s' := by
 obtain ⟨eD, fD, _⟩ := J.pin (D, { cls := .type "list", data := .seq its.toArray n }) (by simp [Cx.comp])
 have U : Un (frs X.stack) fp H H' s.heap s'.heap := J.base
 have neD : ∀ b o, s.heap.get? b = some o → b ≠ D := fun b o e => lt_ne e hD
 refine I.call' (ch := fp) J.os ⟨U.keep, U.slot, fun b o e n hx => ?_, U.there, fun b xs e => ?_, fun b o xs e => ?_, fun b ps e => ?_⟩ (fun b u e => ?_) J.bare fun b hb => (hfp b hb).2.2.2 |> fun z => ⟨z.1, (hfp b hb).2.1, z.2.1, z.2.2⟩
 ·rw [upd_ne (neD b o e)]; exact U.free b o e n hx
 ·have q := U.tups b xs e
  rw [upd_ne (ne_of_none q fD)]; exact q
 ·have q := U.frzs b o xs e
  rw [upd_ne (ne_of_none q fD)]; exact q
 ·obtain ⟨more, q⟩ := U.tbls b ps e
  exact ⟨more, by rw [upd_ne (ne_of_none q fD)]; exact q⟩
 ·by_cases hb : b = D
  ·subst hb
   rw [upd_same] at e
   cases e
   exact ⟨hl, its, n, r, eD⟩
  ·rw [upd_ne hb] at e
   exact (J.hok b u e).stay (fun c v _ q => q) (fun c q => by rw [upd_ne (ne_of_none q fD)]; exact q) fun c xs q => by rw [upd_ne (ne_of_none q fD)]; exact q
end
section
variable {prog : Program} {w : World} {A : Around} {E : Value → Shared → Prop} {R : Result → Shared → Prop} {s : Shared}
theorem compLoop_own {elt target iter : Expr} {ifs : List Expr} {scope : Scope} {pos : Pos} {it acc : Value} {env : Env} (I : Nat → Shared → Prop)
  (turn : ∀ n s, I n s → wpAny (model prog w) A (pyNext it) (fun r s₁ => match r with
   | none => R (.ok .next) s₁
   | some v => wpAny (model prog w) A (letOwnedTupleGo target it v) (fun _ s₀ => wpAny (model prog w) A (assign target env v) (fun _ s₂ =>
     wpAny (model prog w) A (forIn ifs true fun c r => if r = true then do let ok ← isTrue c env (eval c env); pure (ForInStep.yield ok) else pure (ForInStep.yield r)) (fun ok s₃ =>
      if ok = true then wpAny (model prog w) A (eval elt env) (fun x s₄ =>
       wpAny (model prog w) A (call (.builtin "list.append") [acc, x]) (fun _ s₅ => ∃ m, m < n ∧ I m s₅) (fun _ _ => False) s₄) (fun _ _ => False) s₃
      else ∃ m, m < n ∧ I m s₃) (fun _ _ => False) s₂) (fun _ _ => False) s₀) (fun _ _ => False) s₁) (fun _ _ => False) s)
  (n : Nat) (h : I n s) :
  codeAny (model prog w) A (.compLoop (.ListComp elt [⟨target, iter, ifs, 0⟩] scope pos) 0 it acc env) R s := by
 refine codeAny_loop rfl I (fun n s hI => ?_) n h
 show wpAny _ A ((compTurn (.ListComp elt [⟨target, iter, ifs, 0⟩] scope pos) 0 it acc env).onRaise (fun x => do noteFrame x env; theTreesLotGoes x)) _ _ s
 refine wpAny_noted ?_
 rw [compTurn_list]
 refine wpAny_bind (wpAny_standAt (wpAny_bind (wpAny_mono (turn n s hI) (fun r s₁ h₁ => ?_) fun _ _ h' => h'.elim)))
 cases r with
 | none => exact wpAny_pure h₁
 | some v =>
  refine wpAny_bind (wpAny_mono h₁ (fun _ s₀ h₀ => ?_) fun _ _ h' => h'.elim)
  refine wpAny_bind (wpAny_mono h₀ (fun _ s₂ h₂ => wpAny_bind (wpAny_mono h₂ (fun ok s₃ h₃ => ?_) fun _ _ h' => h'.elim)) fun _ _ h' => h'.elim)
  cases ok with
  | false => exact wpAny_pure ⟨rfl, h₃⟩
  | true =>
   exact wpAny_bind (wpAny_bind (wpAny_mono h₃ (fun x s₄ h₄ => wpAny_bind (wpAny_mono h₄ (fun _ s₅ h₅ => wpAny_pure (wpAny_pure ⟨rfl, h₅⟩)) fun _ _ h' => h'.elim)) fun _ _ h' => h'.elim))
end
noncomputable def tYes : TT := fun _ H Q => Q true H
noncomputable def compR (J : It) (g : TG) (tt : TT) (te : TE) (σ₀ : St) (H1 : Hp) (Q : List V → Hp → Prop) : Prop :=
 ∃ W : Nat → Nat → List V → St → Hp → Prop, (∃ m, W 0 m [] σ₀ H1) ∧ ∀ i m ys σ' H', W i m ys σ' H' →
  (J.stop i H' ∧ Q ys H') ∨ (J.go i H' ∧ ys.length < sizeLine ∧ ∃ N : List V → St → Hp → Prop, (∀ ys' σ'' H'', N ys' σ'' H'' → ∃ m', m' < m ∧ W (i + 1) m' ys' σ'' H'') ∧
   ∀ x H'', J.yld i H' x H'' → g x σ' H'' fun σ2 H2 => tt σ2 H2 fun b H3 => if b = true then te σ2 H3 fun y H4 => N (ys ++ [y]) σ2 H4 else N ys σ2 H3)
noncomputable def tComp (nv : Nat) (ix : List Nat) (wi : TI) (g : TG) (tt : TT) (te : TE) : TE := fun σ H Q => wi σ H fun J H1 => compR J g tt te (compSt nv ix σ) H1 fun ys H' => ys.length ≤ sizeLine ∧ ∀ D, H' D = none → Q (.ref D) (upd H' D (.lst ys))
section
variable {X : Cx} {tg elt iter : Expr} {ifs : List Expr} {scope : Scope} {N : List Str} {nv : Nat} {ix : List Nat} {pos spos : Pos} {wi : TI} {g : TG} {tt : TT} {te : TE}
noncomputable def PTs (X : Cx) (ifs : List Expr) (tt : TT) : Prop :=
 ∀ (pins : List (Addr × Obj)) (s : Shared) (σ : St) (H : Hp) (Q : Bool → Hp → Prop), Inv X pins σ H s → tt σ H Q →
  wpAny (model X.prog X.w) X.A (forIn ifs true fun c r => if r = true then do let ok ← isTrue c X.env (eval c X.env); pure (ForInStep.yield ok) else pure (ForInStep.yield r)) (TP X pins σ Q) X.xe s
theorem pts_nil : PTs X [] tYes := fun _ _ _ H _ I h => wpAny_tests_nil ⟨H, I, h⟩
theorem pts_one {c : Expr} (h : PT X c tt) : PTs X [c] tt := fun pins s σ H Q I hw => wpAny_tests_one (h pins s σ H Q I hw)
theorem comp_core {use : Option (Value → Sem Unit)} {Qv : Value → Shared → Prop} {pins : List (Addr × Obj)} {s : Shared} {σ : St} {H : Hp} {Q : List V → Hp → Prop} (hc : X.calm = true) (S : CScope X scope N nv ix) (hi : PI X tg iter wi)
  (hg : ∀ cl C s H ex, PG (X.comp scope cl C N s H ex) tg g) (ht : ∀ cl C s H ex, PTs (X.comp scope cl C N s H ex) ifs tt) (he : ∀ cl C s H ex, PE (X.comp scope cl C N s H ex) elt te) (I : Inv X pins σ H s)
  (h : wi σ H fun J H1 => compR J g tt te (compSt nv ix σ) H1 fun ys H' => ys.length ≤ sizeLine ∧ Q ys H')
  (fin : ∀ ys D C H' s' (s2 : Shared) (σ2 : St), Q ys H' → H' D = none → D ≠ C → Inv X pins σ (upd H' D (.lst ys)) s' → (∃ m, s'.heap.Ns C m) → (∀ H'', H'' C = none → FpOk X pins H'' C) → H' C = none → compPost (model X.prog X.w) X.A X.xe use Qv (.ref D) C (.ok .next) s')
  (hs : ∀ x, foldedSetIterable iter X.env x = pure x) :
  wpAny (model X.prog X.w) X.A (comprehension (.ListComp elt [⟨tg, iter, ifs, 0⟩] scope pos) scope X.env (firstIterPos [⟨tg, iter, ifs, 0⟩] pos) (newList []) false (eval iter X.env) use) Qv X.xe s := by
 obtain ⟨cl, hclos, hcl, hcl2⟩ := closure_ok (env := X.env) (scope := scope) fun y hy hf => I.ok.has y.1 (S.fre y hy hf)
 refine wpAny_comprehension_free (use := use) rfl hs hclos S.kind S.names (thn (hi pins s σ H _ I h) fun v s1 h1 => thn h1 fun itv s2 h2 => ?_)
 obtain ⟨it, fp, tn, J, H2, e, I2, T, st2, f2, W, ⟨m0, w0⟩, turn⟩ := h2
 subst e
 refine wpAny_newObj_type (wpAny_newFunctionEnv S.nocell (by intro y hy; simp at hy) (fun h₁ hns₁ hsb₁ => ?_) S.kind)
 dsimp only at hns₁ hsb₁ ⊢
 generalize hH2 : s2.heap.push { cls := .type "list", dict := none, data := .seq ([] : List Value).toArray } = G2 at hns₁ hsb₁ ⊢
 have hC : G2.objs.size = s2.heap.objs.size + 1 := by rw [← hH2, Heap.size_push]
 have hDC : s2.heap.objs.size ≠ G2.objs.size := by rw [hC]; exact Nat.ne_of_lt (Nat.lt_succ_self _)
 have old : ∀ b o, s2.heap.get? b = some o → h₁.get? b = some o := fun b o e => hsb₁.extBut b o (lt_ne e (by rw [hC]; exact Nat.le_succ _)) (Heap.get?_push_of_some _ (hH2 ▸ Heap.get?_push_of_some _ e))
 have hacc : h₁.get? s2.heap.objs.size = some { cls := .type "list", data := .seq ([] : List Value).toArray 0 } := hsb₁.extBut _ _ hDC (Heap.get?_push_of_some _ (hH2 ▸ Heap.get?_push_size _ rfl))
 have hob : ∀ b ∈ fp, b < s2.heap.objs.size := fun b hb => by
  obtain ⟨o, e, _⟩ := T.obj _ _ st2 b hb
  exact Heap.lt_size e
 have hCle : s2.heap.objs.size ≤ G2.objs.size := by rw [hC]; exact Nat.le_succ _
 have I4 : ∀ tk, Inv (X.comp scope cl G2.objs.size N s2 H2 fp) [(s2.heap.objs.size, { cls := .type "list", data := .seq ([] : List Value).toArray 0 })] (compSt nv ix σ) H2 { s2 with heap := h₁, toks := tk } := fun tk =>
  comp_start S I2 hcl hcl2 f2 hob hCle (Nat.le_refl _) hDC old hns₁ hacc (fun v z => by cases z)
 have hst₁ : tn 0 h₁ := T.keep _ _ _ st2 fun b _ o e => old b o e
 have stat : ∀ {H' : Hp} {pns : List (Addr × Obj)}, (∀ p ∈ pns, p.1 = s2.heap.objs.size) → (∀ b ∈ fp, H' b = none) → ∀ b ∈ fp, FpOk (X.comp scope cl G2.objs.size N s2 H2 fp) pns H' b := fun {H' pns} hp hn b hb => by
  obtain ⟨f0, f1, f3, f4, f5, f6⟩ := f2 b hb
  have hlt := hob b hb
  refine ⟨hn b hb, fun z => ?_, fun z => ?_, .inl hb, fun x c e => f5 x c (hcl x c e), fun p hp' z => ?_⟩
  ·exact Nat.ne_of_lt (Nat.lt_of_lt_of_le hlt hCle) z
  ·rcases List.mem_cons.mp (I2.stkSub b z) with q | q
   ·exact f1 q
   ·exact f3 q
  ·have hp'' : p ∈ pns := by simpa [Cx.comp] using hp'
   exact Nat.ne_of_gt (by rw [hp p hp'']; exact hlt) z
 have loop : ∀ s₃ : Shared, s₃ = { s2 with heap := h₁, toks := s2.toks + ([] : List (Str × Value)).length } →
   codeAny (model X.prog X.w) X.A (.compLoop (.ListComp elt [⟨tg, iter, ifs, 0⟩] scope pos) 0 (.ref it) (.ref s2.heap.objs.size) (compEnvC scope cl G2.objs.size X.env))
    (compPost (model X.prog X.w) X.A X.xe use Qv (.ref s2.heap.objs.size) G2.objs.size) s₃ := by
  rintro s₃ rfl
  refine compLoop_own (fun n s' => ∃ i ys its σ' H', Inv (X.comp scope cl G2.objs.size N s2 H2 fp) [(s2.heap.objs.size, { cls := .type "list", data := .seq its.toArray its.length })] σ' H' s' ∧ tn i s'.heap ∧ (∀ b ∈ fp, H' b = none) ∧ Vals ys its ∧ W i n ys σ' H') ?_ m0
   ⟨0, [], [], _, H2, I4 _, hst₁, fun b hb => (f2 b hb).1, .nil, w0⟩
  rintro n s' ⟨i, ys, its, σ', H', I', st', fr', rv, w'⟩
  have pin1 : ∀ {o : Obj}, ∀ p ∈ [(s2.heap.objs.size, o)], p.1 = s2.heap.objs.size := fun {o} p hp => by
   exact congrArg Prod.fst (List.mem_singleton.mp hp)
  rcases turn i n ys σ' H' w' with ⟨stop, hl, qn⟩ | ⟨go, hlen, Nx, hN, step⟩
  ·refine thn (T.done (X.comp scope cl G2.objs.size N s2 H2 fp) rfl rfl rfl hc i _ s' σ' H' (fun _ _ => False) I' (stat pin1 fr') st' stop) fun r s4 ⟨hr, I5⟩ => ?_
   subst hr
   obtain ⟨m5, hm5, _⟩ := I5.loc
   have fD := (I5.pin (s2.heap.objs.size, { cls := .type "list", data := .seq its.toArray its.length }) (List.mem_append_right _ (by simp))).2.1
   exact fin ys _ _ H' s4 s2 σ' qn fD hDC (comp_end I2 f2 (Nat.le_refl _) I5 rv hl) ⟨m5, hm5⟩ (fun H'' hn => I2.fpOk hCle hn) I5.free
  ·refine thn (T.item (X.comp scope cl G2.objs.size N s2 H2 fp) rfl rfl rfl hc i _ s' σ' H' (fun _ _ => False) I' (stat pin1 fr') st' go) fun r s4 ⟨u, hr, h4⟩ => ?_
   subst hr
   refine thn h4 fun _ s5 ⟨x, H5, I5, r5, y5, st5, fr5⟩ => ?_
   have I5' := I5.pinned (stat pin1 fr5) (T.obj _ _ st5)
   refine thn (hg _ _ _ _ _ _ s5 σ' H5 x u _ I5' r5 (step x H5 y5)) fun _ s6 ⟨σ6, H6, I6, q6⟩ => ?_
   refine thn (ht _ _ _ _ _ _ s6 σ6 H6 _ I6 q6) fun b s7 ⟨H7, I7, q7⟩ => ?_
   have back : ∀ {σ8 : St} {H8 : Hp} {s8 : Shared}, Inv (X.comp scope cl G2.objs.size N s2 H2 fp) ([(s2.heap.objs.size, { cls := .type "list", data := .seq its.toArray its.length })] ++ pinsAt fp s5.heap) σ8 H8 s8 → tn (i + 1) s8.heap ∧ ∀ b ∈ fp, H8 b = none := fun {σ8 H8 s8} J =>
    ⟨T.keep _ _ _ st5 fun b hb o e => (J.pin (b, o) (List.mem_append_right _ (List.mem_append_right _ (mem_pinsAt hb e)))).1, fun b hb => by
     obtain ⟨o, e, d⟩ := T.obj _ _ st5 b hb
     exact (J.pin (b, o) (List.mem_append_right _ (List.mem_append_right _ (mem_pinsAt hb e)))).2.1⟩
   cases b with
   | false =>
    rw [if_neg Bool.false_ne_true] at q7
    obtain ⟨m', hm, w7⟩ := hN _ _ _ q7
    exact ⟨m', hm, i + 1, ys, its, σ6, H7, I7.unpinned, (back I7).1, (back I7).2, rv, w7⟩
   | true =>
    rw [if_pos rfl] at q7
    refine thn (he _ _ _ _ _ _ s7 σ6 H7 _ I7 q7) fun y s8 ⟨yv, H8, I8, r8, q8⟩ => ?_
    obtain ⟨eD, fD, nD, nfD, dD⟩ := I8.pin (s2.heap.objs.size, { cls := .type "list", data := .seq its.toArray its.length }) (List.mem_append_right _ (by simp))
    refine append_at (hsz := by rw [List.size_toArray, ← rv.length]; exact Nat.le_of_lt hlen) eD fun h₅ hs₅ hD₅ => ?_
    obtain ⟨m', hm, w8⟩ := hN _ _ _ q8
    have fpD : s2.heap.objs.size ∉ fp := fun z => Nat.lt_irrefl _ (hob _ z)
    have I9 : Inv (X.comp scope cl G2.objs.size N s2 H2 fp) [] σ6 H8 s8 := I8.pins_of fun p hp => absurd hp (by simp)
    have fk := I2.fpOk (H' := H8) (Nat.le_refl _) fD
    have I10 : Inv (X.comp scope cl G2.objs.size N s2 H2 fp) [] σ6 H8 { s8 with heap := h₅, toks := s8.toks } :=
     I9.turned (it := s2.heap.objs.size) (fun b o hb e => hs₅.extBut b o hb e) fD nD (.inr (Nat.le_refl _)) (fun x c e => fk.2.2.2.2.1 x c (hcl x c e)) (fun p hp => absurd hp (by simp [Cx.comp]))
    refine ⟨m', hm, i + 1, ys ++ [yv], its ++ [y], σ6, H8, I10.pins_of fun p hp => ?_, ?_, (back I8).2, rv.append (.cons r8 .nil), w8⟩
    ·have e : p = (s2.heap.objs.size, { cls := .type "list", data := .seq (its ++ [y]).toArray (its ++ [y]).length }) := by simpa using hp
     subst e
     refine ⟨?_, fD, nD, nfD, fun v z => by cases z⟩
     show h₅.get? s2.heap.objs.size = _
     rw [hD₅, List.push_toArray, List.length_append, List.length_singleton]
    ·exact T.keep _ _ _ (back I8).1 fun b hb o e => hs₅.extBut b o (fun z => fpD (by have z' : b = s2.heap.objs.size := z; rw [← z']; exact hb)) e
 exact codeAny_compStart_list (loop _ rfl) (T.self _ 0 _ _ _ hst₁ (loop _ rfl))
theorem pe_comp (hc : X.calm = true) (S : CScope X scope N nv ix) (hi : PI X tg iter wi)
  (hg : ∀ cl C s H ex, PG (X.comp scope cl C N s H ex) tg g) (ht : ∀ cl C s H ex, PTs (X.comp scope cl C N s H ex) ifs tt) (he : ∀ cl C s H ex, PE (X.comp scope cl C N s H ex) elt te)
  (hs : ∀ x, foldedSetIterable iter X.env x = pure x := by intro _; rfl) : PE X (.ListComp elt [⟨tg, iter, ifs, 0⟩] scope pos) (tComp nv ix wi g tt te) := by
 intro pins s σ H Q I h
 rw [eval_ListComp]
 refine comp_core (Q := fun ys H' => ∀ D, H' D = none → Q (.ref D) (upd H' D (.lst ys))) (use := none) hc S hi hg ht he I ?_ (fun ys D C H' s' s2 σ2 q fD hDC J hm fk fC => ?_) hs
 ·exact h
 ·obtain ⟨m, hm⟩ := hm
  refine ⟨m, hm, fun h' sb => ⟨.ref D, _, ?_, rfl, q D fD⟩⟩
  have fC' : upd H' D (.lst ys) C = none := by rw [upd_ne (Ne.symm hDC)]; exact fC
  obtain ⟨f0, f1, f2, f3, f4, f5⟩ := fk _ fC'
  exact J.turned (t' := s'.toks) (it := C) (fun b o hb e => sb.extBut b o hb e) f0 f1 f3 f4 f5
theorem ps_setc {i : Nat} {x : Str} {px : Pos} (hc : X.calm = true) (hN : X.N.Nodup) (hi' : X.N[i]? = some x) (hx : X.env.scope.names.lookup x = some .local) (S : CScope X scope N nv ix) (hi : PI X tg iter wi)
  (hg : ∀ cl C s H ex, PG (X.comp scope cl C N s H ex) tg g) (ht : ∀ cl C s H ex, PTs (X.comp scope cl C N s H ex) ifs tt) (he : ∀ cl C s H ex, PE (X.comp scope cl C N s H ex) elt te)
  (hsw : swapsWith (.ListComp elt [⟨tg, iter, ifs, 0⟩] scope pos) (some (.Name x px)) spos.line X.env = pure true := by rfl)
  (hs : ∀ x, foldedSetIterable iter X.env x = pure x := by intro _; rfl) : PS X (.Assign [.Name x px] (.ListComp elt [⟨tg, iter, ifs, 0⟩] scope pos) spos) (tAsg (tComp nv ix wi g tt te) (gName i)) := by
 intro pins s σ H D I h
 rw [exec_Assign_Name_used _ _ _ _ hsw]
 refine wpAny_bind (wpAny_standAt (wpAny_bind ?_))
 show wpAny _ _ (do let _ ← comprehension (.ListComp elt [⟨tg, iter, ifs, 0⟩] scope pos) scope X.env (firstIterPos [⟨tg, iter, ifs, 0⟩] pos) (newList []) false (eval iter X.env) (some (assign (.Name x px) X.env))) _ _ s
 refine wpAny_bind (thn (comp_core (Q := fun ys H' => ∀ l, H' l = none → D.nx (σ.set i (some (.ref l))) (upd H' l (.lst ys))) (use := some (assign (.Name x px) X.env)) (Qv := fun _ s' => SP X pins D .next s') hc S hi hg ht he I h (fun ys l C H' s' s2 σ2 q fD hDC J hm fk fC => ?_) hs)
  fun _ s' hq => wpAny_pure (wpAny_pure hq))
 obtain ⟨m, hm⟩ := hm
 have fC' : upd H' l (.lst ys) C = none := by rw [upd_ne (Ne.symm hDC)]; exact fC
 obtain ⟨f0, f1, f2, f3, f4, f5⟩ := fk _ fC'
 show wpAny _ _ (assign (.Name x px) X.env (.ref l)) _ _ s'
 refine wpAny_assign_Name (store_ok2 J hN hi' (.inl hx) (v := .ref l) (u := .ref l) rfl (fun s'' J' ⟨a, sb, ha⟩ => ?_) (.inr hx))
 have hCa : C ≠ a := by
  rcases ha with z | z
  ·rw [z]; exact f1
  ·exact Ne.symm (f4 x a z)
 refine ⟨m, hm.sameBut sb hCa, fun h' sb' => ⟨_, _, ?_, q l fD⟩⟩
 exact J'.turned (t' := s''.toks) (it := C) (fun b o hb e => sb'.extBut b o hb e) f0 f1 f3 f4 f5
end
end L2
set_option maxRecDepth 100000
namespace L2
open PySem PySem.Spec PyProof.Rows
noncomputable def Its (x : Str) : It := ⟨fun i _ => i < x.cps.size, fun i H v H' => H' = H ∧ ∃ c, x.cps[i]? = some c ∧ v = .str ⟨#[c]⟩, fun i _ => x.cps.size ≤ i⟩
theorem turn_str {P : Program} {w : World} {K : PySem.W.Frag} {tg : Expr} (it : Addr) (x : Str) (t : Tok) (T : String) (hT : T = "str_ascii_iterator" ∨ T = "str_iterator") : Turn P w K tg (Its x) [it] it (fun i h => h.IsStrIter it T x t i) where
 mem := by simp
 obj := fun i h st b hb => by
  have e : b = it := by simpa using hb
  subst e
  obtain ⟨o, e, c, d⟩ := st
  exact ⟨o, e, fun v z => by rw [d] at z; cases z⟩
 keep := fun i h h' st k => by
  obtain ⟨o, e, r⟩ := st
  exact ⟨o, k it (by simp) o e, r⟩
 item := by
  intro X hP hw hK hc i pins s σ H E I hf st hg
  subst hP hw hK
  obtain ⟨f0, f1, f2, f3, f4, f5⟩ := hf it (by simp)
  have hg' : i < x.cps.size := hg
  have W : Walks X.prog X.w X.A it [it] [it] x.cps.size (SignAt x) (fun i h => h.IsStrIter it T x t i) := by
   rcases hT with rfl | rfl
   ·exact Walks.strAscii (I.ok.hd hc) it x t
   ·exact Walks.strWide (I.ok.hd hc) it x t
  refine W.item i s _ _ hg' st fun v h' tk hv st' kk => ?_
  obtain ⟨c, u, hcx, rfl⟩ := hv
  have I1 : Inv X pins σ H { s with heap := h', toks := tk } := I.turned (fun b o hb e => kk b o (by simpa using hb) e) f0 f1 f3 f4 f5
  obtain ⟨o, e, c', d⟩ := id st'
  refine ⟨_, rfl, go_of (s := { s with heap := h', toks := tk }) e c' d (by rcases hT with rfl | rfl <;> decide) ⟨.str ⟨#[c]⟩, H, I1, ⟨u, rfl⟩, ⟨rfl, c, hcx, rfl⟩, st', fun b hb => (hf b hb).1⟩⟩
 done := by
  intro X hP hw hK hc i pins s σ H E I hf st hg
  subst hP hw hK
  obtain ⟨f0, f1, f2, f3, f4, f5⟩ := hf it (by simp)
  have hg' : x.cps.size ≤ i := hg
  have he : x.cps[i]? = none := by simp [hg']
  rcases hT with rfl | rfl
  ·exact wpAny_pyNext_ascii_end (I.ok.hd hc) st he fun h' eb => ⟨rfl, I.turned (t' := s.toks) (fun b o hb e => eb b o hb e) f0 f1 f3 f4 f5⟩
  ·exact wpAny_pyNext_wide_end (I.ok.hd hc) st he fun h' eb => ⟨rfl, I.turned (t' := s.toks) (fun b o hb e => eb b o hb e) f0 f1 f3 f4 f5⟩
 self := fun _ _ _ _ _ st h => by
  rcases hT with rfl | rfl
  ·exact wpAny_pyIter_striter_ascii st h
  ·exact wpAny_pyIter_striter_wide st h
noncomputable def seqR (K : PySem.W.Frag) (x : V) (H1 : Hp) (R : It → Hp → Prop) : Prop := match x with
 | .ref a => (∃ xs, SqL K H1 a xs ∧ R (Itl K a) H1) ∨ (∃ xs, SqT K H1 a xs ∧ R (Itt K a) H1)
 | .str z => R (Its z) H1
 | _ => False
noncomputable def iSeq (K : PySem.W.Frag) (tl : TE) : TI := fun σ H R => tl σ H fun x H1 => seqR K x H1 R
theorem pi_seq {X : Cx} {tg l : Expr} {tl : TE} (hl : PE X l tl) : PI X tg l (iSeq X.K tl) := by
 intro pins s σ H R I h
 refine thn (hl pins s σ H _ I h) fun v s1 ⟨x, H1, I1, r1, q1⟩ => ?_
 cases x with
 | ref a =>
  cases r1
  rcases q1 with ⟨xs, hq, q⟩ | ⟨xs, hq, q⟩
  ·obtain ⟨its, rv, p, hz⟩ := I1.list hq
   refine wpAny_pyIter_list p.isList ?_
   refine ⟨s1.heap.objs.size, [s1.heap.objs.size], _, _, H1, rfl, I1.kept (t' := s1.toks) fun b o e => Heap.get?_push_of_some _ e, turn_list a _, ⟨_, Heap.get?_push_size _ rfl, rfl, rfl⟩, fun b hb => ?_, q⟩
   have e : b = s1.heap.objs.size := by simpa using hb
   subst e
   exact I1.fpOk (Nat.le_refl _) (I1.hok.fresh (Nat.le_refl _))
  ·obtain ⟨its, rv, p, hz⟩ := I1.tuple hq
   refine wpAny_pyIter_tuple (show s1.heap.IsTuple a its.toArray from p) ?_
   refine ⟨s1.heap.objs.size, [s1.heap.objs.size], _, _, H1, rfl, I1.kept (t' := s1.toks) fun b o e => Heap.get?_push_of_some _ e, turn_tuple a _, ⟨_, Heap.get?_push_size _ rfl, rfl, rfl⟩, fun b hb => ?_, q⟩
   have e : b = s1.heap.objs.size := by simpa using hb
   subst e
   exact I1.fpOk (Nat.le_refl _) (I1.hok.fresh (Nat.le_refl _))
 | str z =>
  obtain ⟨t, rfl⟩ := r1
  have fp : ∀ b ∈ [s1.heap.objs.size], FpOk X pins H1 b := fun b hb => by
   have e : b = s1.heap.objs.size := by simpa using hb
   subst e
   exact I1.fpOk (Nat.le_refl _) (I1.hok.fresh (Nat.le_refl _))
  cases ha : z.cps.all (· < 128)
  ·exact wpAny_pyIter_wide ha ⟨s1.heap.objs.size, [s1.heap.objs.size], _, _, H1, rfl, I1.kept (t' := s1.toks) fun b o e => Heap.get?_push_of_some _ e, turn_str _ z t _ (.inr rfl), ⟨_, Heap.get?_push_size _ rfl, rfl, rfl⟩, fp, q1⟩
  ·exact wpAny_pyIter_ascii ha ⟨s1.heap.objs.size, [s1.heap.objs.size], _, _, H1, rfl, I1.kept (t' := s1.toks) fun b o e => Heap.get?_push_of_some _ e, turn_str _ z t _ (.inl rfl), ⟨_, Heap.get?_push_size _ rfl, rfl, rfl⟩, fp, q1⟩
 | _ => exact q1.elim
noncomputable def forR (J : It) (g : TG) (tb : TS) (D : Ends) (σ : St) (H : Hp) : Prop := ∃ W : Nat → Nat → St → Hp → Prop, (∃ m, W 0 m σ H) ∧ ∀ i m σ H, W i m σ H →
 (J.stop i H ∧ D.nx σ H) ∨ (J.go i H ∧ ∃ N : St → Hp → Prop, (∀ σ' H', N σ' H' → ∃ m', m' < m ∧ W (i + 1) m' σ' H') ∧ ∀ x H', J.yld i H x H' → g x σ H' fun σ2 H2 => tb { D with nx := N, ct := N, bk := D.nx } σ2 H2)
section
variable {K : PySem.W.Frag} {tl : TE} {g : TG} {tb : TS} {D : Ends} {σ : St} {H : Hp} {tt : TT} {te : TE} {nv : Nat} {ix : List Nat} {Q : VK} {ta : TA}
theorem tFor_seq : tFor (iSeq K tl) g tb D σ H = tl σ H fun x H1 => seqR K x H1 fun J H2 => forR J g tb D σ H2 := rfl
theorem tComp_seq : tComp nv ix (iSeq K tl) g tt te σ H Q = tl σ H fun x H1 => seqR K x H1 fun J H2 => compR J g tt te (compSt nv ix σ) H2 fun ys H' => ys.length ≤ sizeLine ∧ ∀ l, H' l = none → Q (.ref l) (upd H' l (.lst ys)) := rfl
noncomputable def rngR1 (vs : List V) (H1 : Hp) (R : It → Hp → Prop) : Prop := match vs with
 | [.int j] => (-(2 ^ 62) ≤ j ∧ j < 2 ^ 62) ∧ R (Itr 0 j.toNat) H1
 | _ => False
noncomputable def rngR2 (vs : List V) (H1 : Hp) (R : It → Hp → Prop) : Prop := match vs with
 | [.int i, .int j] => (-(2 ^ 62) ≤ i ∧ i < 2 ^ 62 ∧ -(2 ^ 62) ≤ j ∧ j < 2 ^ 62) ∧ R (Itr i (j - i).toNat) H1
 | _ => False
noncomputable def jRng1 (ta : TA) : TI := fun σ H R => ta σ H fun vs H1 => rngR1 vs H1 R
noncomputable def jRng2 (ta : TA) : TI := fun σ H R => ta σ H fun vs H1 => rngR2 vs H1 R
noncomputable def rngR3 (vs : List V) (H1 : Hp) (R : It → Hp → Prop) : Prop := match vs with
 | [.int i, .int j, .int c] => (-(2 ^ 61) ≤ i ∧ i < 2 ^ 61 ∧ -(2 ^ 61) ≤ j ∧ j < 2 ^ 61 ∧ 0 < c ∧ c < 1000000) ∧ R (ItrS i c (rcount i j c)) H1
 | _ => False
noncomputable def jRng3 (ta : TA) : TI := fun σ H R => ta σ H fun vs H1 => rngR3 vs H1 R
theorem tFor_rng1 : tFor (jRng1 ta) g tb D σ H = ta σ H fun vs H1 => rngR1 vs H1 fun J H2 => forR J g tb D σ H2 := rfl
theorem tFor_rng2 : tFor (jRng2 ta) g tb D σ H = ta σ H fun vs H1 => rngR2 vs H1 fun J H2 => forR J g tb D σ H2 := rfl
theorem tFor_rng3 : tFor (jRng3 ta) g tb D σ H = ta σ H fun vs H1 => rngR3 vs H1 fun J H2 => forR J g tb D σ H2 := rfl
theorem tComp_rng1 : tComp nv ix (jRng1 ta) g tt te σ H Q = ta σ H fun vs H1 => rngR1 vs H1 fun J H2 => compR J g tt te (compSt nv ix σ) H2 fun ys H' => ys.length ≤ sizeLine ∧ ∀ l, H' l = none → Q (.ref l) (upd H' l (.lst ys)) := rfl
theorem tComp_rng2 : tComp nv ix (jRng2 ta) g tt te σ H Q = ta σ H fun vs H1 => rngR2 vs H1 fun J H2 => compR J g tt te (compSt nv ix σ) H2 fun ys H' => ys.length ≤ sizeLine ∧ ∀ l, H' l = none → Q (.ref l) (upd H' l (.lst ys)) := rfl
theorem tComp_rng3 : tComp nv ix (jRng3 ta) g tt te σ H Q = ta σ H fun vs H1 => rngR3 vs H1 fun J H2 => compR J g tt te (compSt nv ix σ) H2 fun ys H' => ys.length ≤ sizeLine ∧ ∀ l, H' l = none → Q (.ref l) (upd H' l (.lst ys)) := rfl
theorem rngR1_int {j : Int} {R : It → Hp → Prop} : rngR1 [.int j] H R = ((-(2 ^ 62) ≤ j ∧ j < 2 ^ 62) ∧ R (Itr 0 j.toNat) H) := rfl
theorem rngR2_int {i j : Int} {R : It → Hp → Prop} : rngR2 [.int i, .int j] H R = ((-(2 ^ 62) ≤ i ∧ i < 2 ^ 62 ∧ -(2 ^ 62) ≤ j ∧ j < 2 ^ 62) ∧ R (Itr i (j - i).toNat) H) := rfl
theorem rngR3_int {i j c : Int} {R : It → Hp → Prop} : rngR3 [.int i, .int j, .int c] H R = ((-(2 ^ 61) ≤ i ∧ i < 2 ^ 61 ∧ -(2 ^ 61) ≤ j ∧ j < 2 ^ 61 ∧ 0 < c ∧ c < 1000000) ∧ R (ItrS i c (rcount i j c)) H) := rfl
end
section
variable {X : Cx} {tg : Expr}
theorem pj_range1 {a : Expr} {ta : TA} {p pos : Pos} (hg : Gl X "range") (hm : X.mg "range" = none) (ha : PA X [a] ta) (hs : starEach [a] X.env = [(false, eval a X.env)] := by rfl) : PI X tg (.Call (.Name "range" p) [a] [] pos) (jRng1 ta) := by
 intro pins s σ H R I h
 refine Call_ (ld_blt I hg hm boot_range (PyProof.Rows.callWith_type1 (thn (ha pos pins s σ H _ I h) fun us s1 ⟨vs, H1, I1, r1, q1⟩ => ?_) hs rfl))
 replace q1 : rngR1 vs H1 R := q1
 unfold rngR1 at q1
 split at q1
 ·obtain ⟨⟨q1, q2⟩, q⟩ := q1
  cases r1 with
  | cons r rr =>
   cases rr
   obtain ⟨t, rfl⟩ := r
   exact call_range_1 (range_it I1 (by omega) (by omega) q1 q2 (by simpa using q))
 ·exact q1.elim
theorem pj_range2 {a b : Expr} {ta : TA} {p pos : Pos} (hg : Gl X "range") (hm : X.mg "range" = none) (ha : PA X [a, b] ta) (hs : starEach [a, b] X.env = [(false, eval a X.env), (false, eval b X.env)] := by rfl) (hs2 : starEach [b] X.env = [(false, eval b X.env)] := by rfl) :
  PI X tg (.Call (.Name "range" p) [a, b] [] pos) (jRng2 ta) := by
 intro pins s σ H R I h
 refine Call_ (ld_blt I hg hm boot_range (PyProof.Rows.callWith_type1 (thn (ha pos pins s σ H _ I h) fun us s1 ⟨vs, H1, I1, r1, q1⟩ => ?_) (by rw [hs, hs2]) (by rw [hs2]; rfl)))
 replace q1 : rngR2 vs H1 R := q1
 unfold rngR2 at q1
 split at q1
 ·obtain ⟨⟨q1, q2, q3, q4⟩, q⟩ := q1
  cases r1 with
  | cons r rr =>
   cases rr with
   | cons r' rr =>
    cases rr
    obtain ⟨t, rfl⟩ := r
    obtain ⟨t', rfl⟩ := r'
    exact call_range_2 (range_it I1 q1 q2 q3 q4 q)
 ·exact q1.elim
end
section
variable {K : PySem.W.Frag} {g : TG} {tb : TS} {D : Ends} {σ : St} {H : Hp}
theorem fo_list {a : Addr} {xs : List V} (hS : SqL K H a xs) (Pv : Nat → St → Hp → Prop) (h0 : Pv 0 σ H) (hl : ∀ i σ H, i ≤ xs.length → Pv i σ H → SqL K H a xs)
  (hs : ∀ i x σ H, xs[i]? = some x → Pv i σ H → g x σ H fun σ2 H2 => tb { D with nx := Pv (i + 1), ct := Pv (i + 1), bk := D.nx } σ2 H2) (hd : ∀ σ H, Pv xs.length σ H → D.nx σ H) :
  seqR K (.ref a) H fun J H2 => forR J g tb D σ H2 := .inl ⟨xs, hS, for_list Pv h0 hl hs hd⟩
theorem fo_rng {lo : Int} {n : Nat} (Pv : Nat → St → Hp → Prop) (h0 : Pv 0 σ H)
  (hs : ∀ (i : Nat) σ H, i < n → Pv i σ H → g (.int (lo + i)) σ H fun σ2 H2 => tb { D with nx := Pv (i + 1), ct := Pv (i + 1), bk := D.nx } σ2 H2) (hd : ∀ σ H, Pv n σ H → D.nx σ H) :
  forR (Itr lo n) g tb D σ H := for_range Pv h0 hs hd
end
section
variable {K : PySem.W.Frag} {tt : TT} {te : TE} {H : Hp} {tail : St} {Q : List V → Hp → Prop} {p : V → Bool} {f : V → V}
theorem comp_pure {J : It} {n : Nat} {xs : List V} (hn : xs.length = n) (hz : n ≤ sizeLine) (go : ∀ i, i < n → J.go i H) (stop : J.stop n H) (yl : ∀ i x H', i < n → J.yld i H x H' → H' = H ∧ xs[i]? = some x)
  (ht : ∀ x ∈ xs, ∀ Q : Bool → Hp → Prop, Q (p x) H → tt (some x :: tail) H Q) (he : ∀ x ∈ xs, p x = true → ∀ Q : VK, Q (f x) H → te (some x :: tail) H Q) (q : Q ((xs.filter p).map f) H) :
  compR J (gName 0) tt te (none :: tail) H Q := by
 refine ⟨fun i m ys σ' H' => i ≤ n ∧ m = n - i ∧ ys = ((xs.take i).filter p).map f ∧ (∃ v, σ' = v :: tail) ∧ H' = H, ⟨n, Nat.zero_le _, rfl, by simp, ⟨_, rfl⟩, rfl⟩, ?_⟩
 rintro i m ys σ' H' ⟨hi, rfl, rfl, ⟨v, rfl⟩, rfl⟩
 by_cases e : i = n
 ·subst e
  refine .inl ⟨stop, ?_⟩
  rw [List.take_of_length_le (by omega)]
  exact q
 ·have hlt : i < n := by omega
  refine .inr ⟨go i hlt, ?_, fun ys' σ'' H'' => ys' = ((xs.take (i + 1)).filter p).map f ∧ (∃ v, σ'' = v :: tail) ∧ H'' = H', fun ys' σ'' H'' ⟨a, b, c⟩ => ⟨n - (i + 1), by omega, by omega, rfl, a, b, c⟩, fun x H'' y => ?_⟩
  ·have h1 : (((xs.take i).filter p).map f).length ≤ i := by
    rw [List.length_map]
    exact Nat.le_trans (List.length_filter_le _ _) (by rw [List.length_take]; omega)
   omega
  ·obtain ⟨rfl, hx⟩ := yl i x H'' hlt y
   have hm : x ∈ xs := List.mem_of_getElem? hx
   have tk : xs.take (i + 1) = xs.take i ++ [x] := by
    rw [List.take_succ, hx]; rfl
   show tt _ _ _
   refine ht x hm _ ?_
   cases hp : p x with
   | true =>
    rw [if_pos rfl]
    refine he x hm hp _ ⟨?_, ⟨_, rfl⟩, rfl⟩
    rw [tk, List.filter_append, List.map_append]
    simp [hp]
   | false =>
    rw [if_neg Bool.false_ne_true]
    refine ⟨?_, ⟨_, rfl⟩, rfl⟩
    rw [tk, List.filter_append, List.map_append]
    simp [hp]
theorem co_list {a : Addr} {xs : List V} (hS : SqL K H a xs) (hz : xs.length ≤ sizeLine) (ht : ∀ x ∈ xs, ∀ Q : Bool → Hp → Prop, Q (p x) H → tt (some x :: tail) H Q) (he : ∀ x ∈ xs, p x = true → ∀ Q : VK, Q (f x) H → te (some x :: tail) H Q) (q : Q ((xs.filter p).map f) H) :
  seqR K (.ref a) H fun J H2 => compR J (gName 0) tt te (none :: tail) H2 Q :=
 .inl ⟨xs, hS, comp_pure (n := xs.length) rfl hz (fun i hi => ⟨xs, xs[i], hS, by simp [hi]⟩) ⟨xs, hS, Nat.le_refl _⟩ (fun i x H' hi y => ⟨y.1, y.2 xs hS⟩) ht he q⟩
theorem co_tup {a : Addr} {xs : List V} (hS : SqT K H a xs) (hz : xs.length ≤ sizeLine) (ht : ∀ x ∈ xs, ∀ Q : Bool → Hp → Prop, Q (p x) H → tt (some x :: tail) H Q) (he : ∀ x ∈ xs, p x = true → ∀ Q : VK, Q (f x) H → te (some x :: tail) H Q) (q : Q ((xs.filter p).map f) H) :
  seqR K (.ref a) H fun J H2 => compR J (gName 0) tt te (none :: tail) H2 Q :=
 .inr ⟨xs, hS, comp_pure (n := xs.length) rfl hz (fun i hi => ⟨xs, xs[i], hS, by simp [hi]⟩) ⟨xs, hS, Nat.le_refl _⟩ (fun i x H' hi y => ⟨y.1, y.2 xs hS⟩) ht he q⟩
noncomputable def rngV (lo : Int) (n : Nat) : List V := (List.range n).map fun i : Nat => .int (lo + (i : Int))
theorem co_rng {lo : Int} {n : Nat} (hz : n ≤ sizeLine) (ht : ∀ i : Nat, i < n → ∀ Q : Bool → Hp → Prop, Q (p (.int (lo + i))) H → tt (some (.int (lo + i)) :: tail) H Q) (he : ∀ i : Nat, i < n → p (.int (lo + i)) = true → ∀ Q : VK, Q (f (.int (lo + i))) H → te (some (.int (lo + i)) :: tail) H Q)
  (q : Q (((rngV lo n).filter p).map f) H) : compR (Itr lo n) (gName 0) tt te (none :: tail) H Q := by
 refine comp_pure (n := n) (xs := rngV lo n) (by simp [rngV]) hz (fun i hi => hi) (Nat.le_refl _) (fun i x H' hi y => ?_) (fun x hx => ?_) (fun x hx => ?_) q
 ·obtain ⟨e, rfl⟩ := y
  refine ⟨e, ?_⟩
  unfold rngV
  rw [List.getElem?_map, List.getElem?_range hi]
  rfl
 ·obtain ⟨i, hi, rfl⟩ := List.mem_map.mp hx
  exact ht i (List.mem_range.mp hi)
 ·obtain ⟨i, hi, rfl⟩ := List.mem_map.mp hx
  exact he i (List.mem_range.mp hi)
theorem compSt_one {ix : List Nat} {σ : St} : compSt 1 ix σ = none :: ix.map fun i => (σ[i]?).join := rfl
end
end L2
set_option maxRecDepth 100000
namespace L2
open PySem PySem.Spec PyProof.Rows
section
variable {X : Cx}
noncomputable def rIsB (neg : Bool) : R2 := fun x y H Q => match y with
 | .bl b => Q (.bl (if neg then !decide (x = .bl b) else decide (x = .bl b))) H
 | _ => False
theorem dec_blbl {a b : Bool} : decide (V.bl a = V.bl b) = decide (a = b) := by
 cases a <;> cases b <;> decide
theorem rIsB_bl {a b : Bool} {H : Hp} {Q : VK} : rIsB false (.bl a) (.bl b) H Q = Q (.bl (decide (a = b))) H := by
 show Q (.bl (if false = true then _ else decide (V.bl a = V.bl b))) H = _
 rw [if_neg Bool.false_ne_true, dec_blbl]
theorem rIsnotB_bl {a b : Bool} {H : Hp} {Q : VK} : rIsB true (.bl a) (.bl b) H Q = Q (.bl (!decide (a = b))) H := by
 show Q (.bl (if true = true then !decide (V.bl a = V.bl b) else _)) H = _
 rw [if_pos rfl, dec_blbl]
noncomputable def rIsN (neg : Bool) : R2 := fun x y H Q => match y with
 | .non => Q (.bl (if neg then !decide (x = .non) else decide (x = .non))) H
 | _ => False
theorem op_isNA : OpR X (compareOp .Is) (rIsN false) := OpR.imp op_isN fun x y H Q h => by
 unfold rIsN at h
 split at h
 ·exact ⟨rfl, h⟩
 ·exact h.elim
theorem op_notNA : OpR X (compareOp .IsNot) (rIsN true) := OpR.imp op_notN fun x y H Q h => by
 unfold rIsN at h
 split at h
 ·exact ⟨rfl, h⟩
 ·exact h.elim
theorem rIsN_f {x : V} {H : Hp} {Q : VK} : rIsN false x .non H Q = Q (.bl (decide (x = .non))) H := rfl
theorem rIsN_t {x : V} {H : Hp} {Q : VK} : rIsN true x .non H Q = Q (.bl (!decide (x = .non))) H := rfl
noncomputable def rBitlen : V → List V → Hp → VK → Prop := fun x vs H Q => match x, vs with
 | .int i, [] => Q (.int ((Builtin.Int.intBits i : Nat) : Int)) H
 | _, _ => False
theorem tyV_int {K : PySem.W.Frag} {i : Int} {H : Hp} : tyV K "int" (.int i) H = True := by
 show ("int" = "int") = True
 simp
theorem tyV_str {K : PySem.W.Frag} {z : Str} {H : Hp} : tyV K "str" (.str z) H = True := by
 show ("str" = "str") = True
 simp
theorem rBitlen_int {i : Int} {H : Hp} {Q : VK} : rBitlen (.int i) [] H Q = Q (.int ((Builtin.Int.intBits i : Nat) : Int)) H := rfl
noncomputable def rSlS : V → Option Int → Option Int → Hp → VK → Prop := fun x lo hi H Q => ∃ z, x = .str z ∧ z.length ≤ sizeLine ∧ Q (.str (Txt.slice z lo hi)) H
theorem part_val {v : Value} {o : Option Int} (h : IsPart v o) : ∃ l : Option (Int × Tok), v = partValue l ∧ l.map (·.1) = o := by
 cases h with
 | none => exact ⟨none, rfl, rfl⟩
 | int i t => exact ⟨some (i, t), rfl, rfl⟩
theorem sl_str : SlR X rSlS := by
 intro pins s σ H x v vl vu lo hi sl Q I rx hs pl pu h
 obtain ⟨z, rfl, hz, q⟩ := h
 obtain ⟨t, rfl⟩ := rx
 obtain ⟨l, rfl, el⟩ := part_val pl
 obtain ⟨u, rfl, eu⟩ := part_val pu
 refine ⟨"str", _, F.slot_str_getitem.lookup, typeIs_str _ _ _, wpAny_getItem_str_slice (l := l) (u := u) (st := none) hs rfl ?_⟩
 unfold sliceMade
 have e : slicePicked z l u none = Builtin.Str.strSliceIndices lo hi 1 z.length := by
  unfold slicePicked
  rw [el, eu]
  rfl
 rw [e]
 have hq : Txt.slice z lo hi = if ((1 : Int) == 1 && (Builtin.Str.strSliceIndices lo hi 1 z.length).length == z.length) = true then z else ⟨((Builtin.Str.strSliceIndices lo hi 1 z.length).filterMap (z.cps[·]?)).toArray⟩ := rfl
 have hle := Txt.slice_le z lo hi
 rw [hq] at q hle
 show (if ((1 : Int) == 1 && (Builtin.Str.strSliceIndices lo hi 1 z.length).length == z.length) = true then Made.val (.str z t) else _).post _ s
 by_cases c : ((1 : Int) == 1 && (Builtin.Str.strSliceIndices lo hi 1 z.length).length == z.length) = true
 ·rw [if_pos c] at q ⊢
  exact ⟨.str z, H, I, ⟨t, rfl⟩, q⟩
 ·rw [if_neg c] at q hle ⊢
  exact ⟨Nat.le_trans hle hz, .str _, H, I.tok _, ⟨_, rfl⟩, q⟩
noncomputable def rSlA (K : PySem.W.Frag) : V → Option Int → Option Int → Hp → VK → Prop := fun x lo hi H Q => match x with
 | .ref a => (∃ xs, SqL K H a xs ∧ ∀ p, H p = none → Q (.ref p) (upd H p (.lst (cutV xs lo hi)))) ∨ rSlT K (.ref a) lo hi H Q
 | .str z => z.length ≤ sizeLine ∧ Q (.str (Txt.slice z lo hi)) H
 | _ => False
theorem SlR.imp {r r' : V → Option Int → Option Int → Hp → VK → Prop} (h : SlR X r) (i : ∀ x lo hi H Q, r' x lo hi H Q → r x lo hi H Q) : SlR X r' :=
 fun pins s σ H x v vl vu lo hi sl Q I rx hs pl pu q => h pins s σ H x v vl vu lo hi sl Q I rx hs pl pu (i _ _ _ _ _ q)
theorem sl_A : SlR X (rSlA X.K) := by
 refine SlR.imp (sl_list.or (sl_tup.or sl_str)) fun x lo hi H Q h => ?_
 unfold rSlA at h
 split at h
 ·rcases h with ⟨xs, h1, h2⟩ | h
  ·exact .inl ⟨_, xs, rfl, h1, h2⟩
  ·exact .inr (.inl h)
 ·exact .inr (.inr ⟨_, rfl, h.1, h.2⟩)
 ·exact h.elim
theorem rSlA_str {K : PySem.W.Frag} {z : Str} {lo hi : Option Int} {H : Hp} {Q : VK} : rSlA K (.str z) lo hi H Q = (z.length ≤ sizeLine ∧ Q (.str (Txt.slice z lo hi)) H) := rfl
theorem rSlA_list {K : PySem.W.Frag} {a : Addr} {xs : List V} {lo hi : Option Int} {H : Hp} {Q : VK} (hS : SqL K H a xs) (h : ∀ p, H p = none → Q (.ref p) (upd H p (.lst (cutV xs lo hi)))) : rSlA K (.ref a) lo hi H Q := .inl ⟨xs, hS, h⟩
noncomputable def rInA (K : PySem.W.Frag) (neg : Bool) : R2 := fun x y H Q => match y with
 | .ref p => ∃ xs, (SqL K H p xs ∨ SqT K H p xs) ∧ flatV x = true ∧ xs.all flatV = true ∧ Q (.bl (if neg then !inV x xs else inV x xs)) H
 | .str j => (match x with
  | .str i => Q (.bl (if neg then !(!(Builtin.Str.occurrences j i 0 j.length 1).isEmpty) else !(Builtin.Str.occurrences j i 0 j.length 1).isEmpty)) H
  | _ => False)
 | _ => False
theorem rInA_ref {K : PySem.W.Frag} {neg : Bool} {x : V} {p : Addr} {H : Hp} {Q : VK} : rInA K neg x (.ref p) H Q = (∃ xs, (SqL K H p xs ∨ SqT K H p xs) ∧ flatV x = true ∧ xs.all flatV = true ∧ Q (.bl (if neg then !inV x xs else inV x xs)) H) := rfl
theorem rInA_str {K : PySem.W.Frag} {neg : Bool} {i j : Str} {H : Hp} {Q : VK} : rInA K neg (.str i) (.str j) H Q = Q (.bl (if neg then !(!(Builtin.Str.occurrences j i 0 j.length 1).isEmpty) else !(Builtin.Str.occurrences j i 0 j.length 1).isEmpty)) H := rfl
end
inductive Dt where
 | non | int (i : Int) | str (z : Str) | l (ds : List Dt) | t (ds : List Dt)
noncomputable def Den (K : PySem.W.Frag) (H : Hp) : Nat → V → Dt → Prop
 | 0, x, d => (x = .non ∧ d = .non) ∨ (∃ i, x = .int i ∧ d = .int i) ∨ (∃ z, x = .str z ∧ d = .str z)
 | n + 1, x, d => Den K H n x d ∨ (∃ a xs ds, x = .ref a ∧ d = .l ds ∧ SqL K H a xs ∧ Paired (Den K H n) xs ds) ∨ (∃ a xs ds, x = .ref a ∧ d = .t ds ∧ SqT K H a xs ∧ Paired (Den K H n) xs ds)
theorem Paired.get {α β : Type} {F : α → β → Prop} : ∀ {xs : List α} {ys : List β} {i : Nat} {x : α}, Paired F xs ys → xs[i]? = some x → ∃ y, ys[i]? = some y ∧ F x y
 | _, _, _, _, .nil, e => by simp at e
 | _, _, 0, _, .cons r _, e => by simp at e; subst e; exact ⟨_, rfl, r⟩
 | _, _, i + 1, x, .cons _ t, e => by
  obtain ⟨u, h1, h2⟩ := Paired.get (i := i) (x := x) t (by simpa using e)
  exact ⟨u, by simpa using h1, h2⟩
open Classical in
theorem all_range_eq {α : Type} {xs ys : List α} {e : Nat → Bool} (hl : xs.length = ys.length) (h : ∀ j a b, xs[j]? = some a → ys[j]? = some b → e j = decide (a = b)) : (List.range xs.length).all e = decide (xs = ys) := by
 rw [Bool.eq_iff_iff, List.all_eq_true, decide_eq_true_eq]
 constructor
 ·intro q
  refine List.ext_getElem hl fun j h1 h2 => ?_
  have := q j (List.mem_range.mpr h1)
  rw [h j xs[j] ys[j] (by simp [h1]) (by simp [h2]), decide_eq_true_eq] at this
  exact this
 ·rintro rfl j hj
  have hj' := List.mem_range.mp hj
  rw [h j xs[j] xs[j] (by simp [hj']) (by simp [hj']), decide_eq_true_eq]
section
variable {X : Cx} {pins : List (Addr × Obj)} {σ : St} {H : Hp} {s : Shared}
open Classical in
theorem den_scal {A : Around} {x y : V} {u v : Value} {d e : Dt} (rx : RelV x u) (ry : RelV y v) (hx : Den X.K H 0 x d) (hy : Den X.K H 0 y e) : SeqAt.EqAt A s u v (decide (d = e)) := by
 rcases hx with ⟨rfl, rfl⟩ | ⟨i, rfl, rfl⟩ | ⟨i, rfl, rfl⟩ <;> rcases hy with ⟨rfl, rfl⟩ | ⟨j, rfl, rfl⟩ | ⟨j, rfl, rfl⟩
 ·cases rx; cases ry; rw [decide_eq_true rfl]; exact SeqAt.EqAt.same _
 ·cases rx; obtain ⟨t, rfl⟩ := ry; rw [decide_eq_false (fun z => nomatch z)]; exact SeqAt.EqAt.none_int _ _
 ·cases rx; obtain ⟨t, rfl⟩ := ry; rw [decide_eq_false (fun z => nomatch z)]; exact SeqAt.EqAt.none_str _ _
 ·obtain ⟨t, rfl⟩ := rx; cases ry; rw [decide_eq_false (fun z => nomatch z)]; exact SeqAt.EqAt.int_none _ _
 ·obtain ⟨t, rfl⟩ := rx; obtain ⟨t', rfl⟩ := ry
  have e : decide (Dt.int i = Dt.int j) = (i == j) := by
   rw [Bool.eq_iff_iff, decide_eq_true_eq, beq_iff_eq]
   exact ⟨fun q => Dt.int.inj q, fun q => by rw [q]⟩
  rw [e]; exact SeqAt.EqAt.int_int _ _ _ _
 ·obtain ⟨t, rfl⟩ := rx; obtain ⟨t', rfl⟩ := ry; rw [decide_eq_false (fun z => nomatch z)]; exact SeqAt.EqAt.int_str _ _ _ _
 ·obtain ⟨t, rfl⟩ := rx; cases ry; rw [decide_eq_false (fun z => nomatch z)]; exact SeqAt.EqAt.str_none _ _
 ·obtain ⟨t, rfl⟩ := rx; obtain ⟨t', rfl⟩ := ry; rw [decide_eq_false (fun z => nomatch z)]; exact SeqAt.EqAt.str_int _ _ _ _
 ·obtain ⟨t, rfl⟩ := rx; obtain ⟨t', rfl⟩ := ry
  have e : decide (Dt.str i = Dt.str j) = (i == j) := by
   rw [Bool.eq_iff_iff, decide_eq_true_eq, beq_iff_eq]
   exact ⟨fun q => Dt.str.inj q, fun q => by rw [q]⟩
  rw [e]; exact SeqAt.EqAt.str_str _ _ _ _
theorem Den.cases {K : PySem.W.Frag} {H : Hp} : ∀ {n : Nat} {x : V} {d : Dt}, Den K H n x d → Den K H 0 x d ∨ (∃ m, m < n ∧ ∃ a xs ds, x = .ref a ∧ d = .l ds ∧ SqL K H a xs ∧ Paired (Den K H m) xs ds) ∨ (∃ m, m < n ∧ ∃ a xs ds, x = .ref a ∧ d = .t ds ∧ SqT K H a xs ∧ Paired (Den K H m) xs ds)
 | 0, _, _, h => .inl h
 | n + 1, _, _, h => by
  rcases h with h | h | h
  ·rcases Den.cases h with q | ⟨m, hm, q⟩ | ⟨m, hm, q⟩
   ·exact .inl q
   ·exact .inr (.inl ⟨m, by omega, q⟩)
   ·exact .inr (.inr ⟨m, by omega, q⟩)
  ·exact .inr (.inl ⟨n, by omega, h⟩)
  ·exact .inr (.inr ⟨n, by omega, h⟩)
theorem Den.up {K : PySem.W.Frag} {H : Hp} {n m : Nat} {x : V} {d : Dt} (h : Den K H n x d) (hm : n ≤ m) : Den K H m x d := by
  induction m with
  | zero => have : n = 0 := by omega
            subst this; exact h
  | succ m ih =>
    by_cases e : n = m + 1
    · subst e; exact h
    · exact .inl (ih (by omega))
theorem paired_det {F G : V → Dt → Prop} : ∀ {xs : List V} {ds es : List Dt}, Paired F xs ds → Paired G xs es → (∀ x d e, F x d → G x e → d = e) → ds = es
 | _, _, _, .nil, .nil, _ => rfl
 | _, _, _, .cons r t, .cons r' t', f => by rw [f _ _ _ r r', paired_det t t' f]
theorem list_not_tuple {a : Addr} {xs ys : List V} (I : Inv X pins σ H s) (h : SqL X.K H a xs) (h' : SqT X.K H a ys) : False := by
 obtain ⟨its, _, p, _⟩ := I.list h
 obtain ⟨its', _, p', _⟩ := I.tuple h'
 obtain ⟨o, n, e, c, _⟩ := p
 obtain ⟨o', e', c', _⟩ := p'
 rw [e] at e'
 cases e'
 rw [c] at c'
 injection c' with z
 exact absurd z (by decide)
theorem den_det (n : Nat) : ∀ {m : Nat} {x : V} {d e : Dt}, Inv X pins σ H s → Den X.K H n x d → Den X.K H m x e → d = e := by
 induction n using Nat.strongRecOn with
 | _ n ih =>
 intro m x d e I hx hy
 rcases hx.cases with hx | ⟨m1, hm, a, xs, ds, rfl, rfl, ha, pa⟩ | ⟨m1, hm, a, xs, ds, rfl, rfl, ha, pa⟩
 ·rcases hy.cases with hy | ⟨k, hk, b, ys, es, rfl, rfl, hb, pb⟩ | ⟨k, hk, b, ys, es, rfl, rfl, hb, pb⟩
  ·rcases hx with ⟨rfl, rfl⟩ | ⟨i, rfl, rfl⟩ | ⟨i, rfl, rfl⟩ <;> rcases hy with ⟨z, rfl⟩ | ⟨j, z, rfl⟩ | ⟨j, z, rfl⟩ <;> first | rfl | (cases z; rfl) | cases z
  ·rcases hx with ⟨z, _⟩ | ⟨i, z, _⟩ | ⟨i, z, _⟩ <;> cases z
  ·rcases hx with ⟨z, _⟩ | ⟨i, z, _⟩ | ⟨i, z, _⟩ <;> cases z
 ·rcases hy.cases with hy | ⟨k, hk, b, ys, es, e1, rfl, hb, pb⟩ | ⟨k, hk, b, ys, es, e1, rfl, hb, pb⟩
  ·rcases hy with ⟨z, _⟩ | ⟨i, z, _⟩ | ⟨i, z, _⟩ <;> cases z
  ·cases e1
   have := I.list_inj ha hb
   subst this
   rw [paired_det pa pb fun x d e h1 h2 => ih m1 hm I h1 h2]
  ·cases e1
   exact (list_not_tuple I ha hb).elim
 ·rcases hy.cases with hy | ⟨k, hk, b, ys, es, e1, rfl, hb, pb⟩ | ⟨k, hk, b, ys, es, e1, rfl, hb, pb⟩
  ·rcases hy with ⟨z, _⟩ | ⟨i, z, _⟩ | ⟨i, z, _⟩ <;> cases z
  ·cases e1
   exact (list_not_tuple I hb ha).elim
  ·cases e1
   have := I.tuple_inj ha hb
   subst this
   rw [paired_det pa pb fun x d e h1 h2 => ih m1 hm I h1 h2]
theorem size_ne {its its2 : List Value} (h : ¬ its.length = its2.length) : (its.toArray.size != its2.toArray.size) = true := by
 rw [List.size_toArray, List.size_toArray, bne_iff_ne]
 exact h
open Classical in
theorem den_items {n : Nat} {A : Around} {xs ys : List V} {its its2 : List Value} {ds es : List Dt} {m k : Nat} (r1 : Vals xs its) (r2 : Vals ys its2) (pa : Paired (Den X.K H m) xs ds) (pb : Paired (Den X.K H k) ys es)
  (ih : ∀ x y u v d e, RelV x u → RelV y v → Den X.K H m x d → Den X.K H k y e → SeqAt.EqAt A s u v (decide (d = e))) :
  ∀ j (h1 : j < its.toArray.size) (h2 : j < its2.toArray.size), SeqAt.EqAt A s its.toArray[j] its2.toArray[j] (decide (ds[j]? = es[j]?)) := by
 intro j h1 h2
 have h1' : j < its.length := by simpa using h1
 have h2' : j < its2.length := by simpa using h2
 have l1 := r1.length
 have l2 := r2.length
 have x1 : xs[j]? = some xs[j] := by simp
 have y1 : ys[j]? = some ys[j] := by simp
 obtain ⟨d', hd', pd⟩ := Paired.get pa x1
 obtain ⟨e', he', pe⟩ := Paired.get pb y1
 obtain ⟨u', hu1, ru⟩ := r1.get x1
 obtain ⟨v', hv1, rv⟩ := r2.get y1
 have e1 : its.toArray[j] = u' := by
  have : its[j]? = some its[j] := by simp
  rw [hu1] at this
  simpa using (Option.some.inj this).symm
 have e2 : its2.toArray[j] = v' := by
  have : its2[j]? = some its2[j] := by simp
  rw [hv1] at this
  simpa using (Option.some.inj this).symm
 have e3 : decide (ds[j]? = es[j]?) = decide (d' = e') := by
  rw [hd', he', Bool.eq_iff_iff, decide_eq_true_eq, decide_eq_true_eq]
  exact ⟨fun q => Option.some.inj q, fun q => by rw [q]⟩
 rw [e1, e2, e3]
 exact ih _ _ _ _ _ _ ru rv pd pe
open Classical in
theorem all_items {ds es : List Dt} {n : Nat} (hn : n = ds.length) (hl : ds.length = es.length) : (List.range n).all (fun j => decide (ds[j]? = es[j]?)) = decide (ds = es) := by
 subst hn
 exact all_range_eq hl fun j a b ha hb => by
  rw [ha, hb, Bool.eq_iff_iff, decide_eq_true_eq, decide_eq_true_eq]
  exact ⟨fun q => Option.some.inj q, fun q => by rw [q]⟩
open Classical in
theorem den_rc (n : Nat) : ∀ {A : Around} {x y : V} {u v : Value} {d e : Dt}, Inv X pins σ H s → A.units + n < cLine → RelV x u → RelV y v → Den X.K H n x d → Den X.K H n y e → SeqAt.EqAt A s u v (decide (d = e)) ∧ ∀ a b, x = .ref a → y = .ref b → SeqAt.RcAt A s (.ref a) (.ref b) (decide (d = e)) := by
 induction n using Nat.strongRecOn with
 | _ n ih =>
 intro A x y u v d e I hu rx ry hx hy
 have lift : ∀ {a b : Addr}, x = .ref a → y = .ref b → SeqAt.RcAt A s (.ref a) (.ref b) (decide (d = e)) → SeqAt.EqAt A s (.ref a) (.ref b) (decide (d = e)) := fun {a b} ea eb q => by
  by_cases hab : a = b
  ·subst hab
   subst ea
   subst eb
   rw [decide_eq_true (den_det n I hx hy)]
   exact SeqAt.EqAt.same _
  ·exact SeqAt.EqAt.of_refs hab q
 have hu' : A.units < cLine := by omega
 rcases hx.cases with hx' | ⟨m, hm, a, xs, ds, rfl, rfl, ha, pa⟩ | ⟨m, hm, a, xs, ds, rfl, rfl, ha, pa⟩
 ·rcases hy.cases with hy' | ⟨k, hk, b, ys, es, rfl, rfl, hb, pb⟩ | ⟨k, hk, b, ys, es, rfl, rfl, hb, pb⟩
  ·refine ⟨den_scal rx ry hx' hy', fun a b e1 e2 => ?_⟩
   subst e1
   rcases hx' with ⟨z, _⟩ | ⟨i, z, _⟩ | ⟨i, z, _⟩ <;> cases z
  ·cases ry
   obtain ⟨its, _, p, _⟩ := I.list hb
   rcases hx' with ⟨rfl, rfl⟩ | ⟨i, rfl, rfl⟩ | ⟨i, rfl, rfl⟩
   ·cases rx; rw [decide_eq_false (fun z => nomatch z)]; exact ⟨SeqAt.EqAt.none_list p.isList hu', fun a b z => nomatch z⟩
   ·obtain ⟨t, rfl⟩ := rx; rw [decide_eq_false (fun z => nomatch z)]; exact ⟨SeqAt.EqAt.int_list _ _ p.isList hu', fun a b z => nomatch z⟩
   ·obtain ⟨t, rfl⟩ := rx; rw [decide_eq_false (fun z => nomatch z)]; exact ⟨SeqAt.EqAt.str_list _ _ p.isList hu', fun a b z => nomatch z⟩
  ·cases ry
   obtain ⟨its, _, p, _⟩ := I.tuple hb
   rcases hx' with ⟨rfl, rfl⟩ | ⟨i, rfl, rfl⟩ | ⟨i, rfl, rfl⟩
   ·cases rx; rw [decide_eq_false (fun z => nomatch z)]; exact ⟨SeqAt.EqAt.none_tuple p hu', fun a b z => nomatch z⟩
   ·obtain ⟨t, rfl⟩ := rx; rw [decide_eq_false (fun z => nomatch z)]; exact ⟨SeqAt.EqAt.int_tuple _ _ p hu', fun a b z => nomatch z⟩
   ·obtain ⟨t, rfl⟩ := rx; rw [decide_eq_false (fun z => nomatch z)]; exact ⟨SeqAt.EqAt.str_tuple _ _ p hu', fun a b z => nomatch z⟩
 ·cases rx
  obtain ⟨its, r1, p, hz⟩ := I.list ha
  rcases hy.cases with hy' | ⟨k, hk, b, ys, es, rfl, rfl, hb, pb⟩ | ⟨k, hk, b, ys, es, rfl, rfl, hb, pb⟩
  ·rcases hy' with ⟨rfl, rfl⟩ | ⟨i, rfl, rfl⟩ | ⟨i, rfl, rfl⟩
   ·cases ry; rw [decide_eq_false (fun z => nomatch z)]; exact ⟨SeqAt.EqAt.list_none p.isList hu', fun a b _ z => nomatch z⟩
   ·obtain ⟨t, rfl⟩ := ry; rw [decide_eq_false (fun z => nomatch z)]; exact ⟨SeqAt.EqAt.list_int _ _ p.isList hu', fun a b _ z => nomatch z⟩
   ·obtain ⟨t, rfl⟩ := ry; rw [decide_eq_false (fun z => nomatch z)]; exact ⟨SeqAt.EqAt.list_str _ _ p.isList hu', fun a b _ z => nomatch z⟩
  ·cases ry
   obtain ⟨its2, r2, p2, hz2⟩ := I.list hb
   have l1 := r1.length
   have l2 := r2.length
   have l3 := Paired.length pa
   have l4 := Paired.length pb
   have eqd : decide (Dt.l ds = Dt.l es) = decide (ds = es) := by
    rw [Bool.eq_iff_iff, decide_eq_true_eq, decide_eq_true_eq]
    exact ⟨fun q => Dt.l.inj q, fun q => by rw [q]⟩
   have rc : SeqAt.RcAt A s (.ref a) (.ref b) (decide (Dt.l ds = Dt.l es)) := by
    rw [eqd]
    by_cases hl : its.length = its2.length
    ·have key := SeqAt.RcAt.lists (e := fun j => decide (ds[j]? = es[j]?)) p.isList p2.isList (by simpa using hl) hu' (den_items (n := n) r1 r2 pa pb fun x y u v d e rx ry h1 h2 =>
      (ih (max m k) (by omega) (A := A.in1) I (by show A.units + 1 + max m k < cLine; omega) rx ry (h1.up (Nat.le_max_left _ _)) (h2.up (Nat.le_max_right _ _))).1)
     rw [all_items (by rw [List.size_toArray]; omega) (by omega)] at key
     exact key
    ·have hne : ds ≠ es := fun q => hl (by rw [q] at l3; omega)
     rw [decide_eq_false hne]
     exact SeqAt.RcAt.lists_lengths p.isList p2.isList (size_ne hl) hu'
   exact ⟨lift rfl rfl rc, fun a' b' e1 e2 => by cases e1; cases e2; exact rc⟩
  ·cases ry
   obtain ⟨its2, r2, p2, _⟩ := I.tuple hb
   rw [decide_eq_false (fun z => nomatch z)]
   exact ⟨SeqAt.EqAt.list_tuple p.isList p2 hu', fun a' b' e1 e2 => by cases e1; cases e2; exact SeqAt.RcAt.list_tuple p.isList p2 hu'⟩
 ·cases rx
  obtain ⟨its, r1, p, hz⟩ := I.tuple ha
  rcases hy.cases with hy' | ⟨k, hk, b, ys, es, rfl, rfl, hb, pb⟩ | ⟨k, hk, b, ys, es, rfl, rfl, hb, pb⟩
  ·rcases hy' with ⟨rfl, rfl⟩ | ⟨i, rfl, rfl⟩ | ⟨i, rfl, rfl⟩
   ·cases ry; rw [decide_eq_false (fun z => nomatch z)]; exact ⟨SeqAt.EqAt.tuple_none p hu', fun a b _ z => nomatch z⟩
   ·obtain ⟨t, rfl⟩ := ry; rw [decide_eq_false (fun z => nomatch z)]; exact ⟨SeqAt.EqAt.tuple_int _ _ p hu', fun a b _ z => nomatch z⟩
   ·obtain ⟨t, rfl⟩ := ry; rw [decide_eq_false (fun z => nomatch z)]; exact ⟨SeqAt.EqAt.tuple_str _ _ p hu', fun a b _ z => nomatch z⟩
  ·cases ry
   obtain ⟨its2, r2, p2, _⟩ := I.list hb
   rw [decide_eq_false (fun z => nomatch z)]
   exact ⟨SeqAt.EqAt.tuple_list p p2.isList hu', fun a' b' e1 e2 => by cases e1; cases e2; exact SeqAt.RcAt.tuple_list p p2.isList hu'⟩
  ·cases ry
   obtain ⟨its2, r2, p2, hz2⟩ := I.tuple hb
   have l1 := r1.length
   have l2 := r2.length
   have l3 := Paired.length pa
   have l4 := Paired.length pb
   have eqd : decide (Dt.t ds = Dt.t es) = decide (ds = es) := by
    rw [Bool.eq_iff_iff, decide_eq_true_eq, decide_eq_true_eq]
    exact ⟨fun q => Dt.t.inj q, fun q => by rw [q]⟩
   have rc : SeqAt.RcAt A s (.ref a) (.ref b) (decide (Dt.t ds = Dt.t es)) := by
    rw [eqd]
    have key := SeqAt.RcAt.tuples (e := fun j => decide (ds[j]? = es[j]?)) p p2 hu' (den_items (n := n) r1 r2 pa pb fun x y u v d e rx ry h1 h2 =>
      (ih (max m k) (by omega) (A := A.in1) I (by show A.units + 1 + max m k < cLine; omega) rx ry (h1.up (Nat.le_max_left _ _)) (h2.up (Nat.le_max_right _ _))).1)
    by_cases hl : its.length = its2.length
    ·rw [show min its.toArray.size its2.toArray.size = ds.length by rw [List.size_toArray, List.size_toArray]; omega, all_items rfl (by omega), show (its.toArray.size == its2.toArray.size) = true by rw [List.size_toArray, List.size_toArray, beq_iff_eq]; exact hl, Bool.and_true] at key
     exact key
    ·have hne : ds ≠ es := fun q => hl (by rw [q] at l3; omega)
     rw [decide_eq_false hne]
     rw [show (its.toArray.size == its2.toArray.size) = false by rw [List.size_toArray, List.size_toArray, beq_eq_false_iff_ne]; exact hl, Bool.and_false] at key
     exact key
   exact ⟨lift rfl rfl rc, fun a' b' e1 e2 => by cases e1; cases e2; exact rc⟩
end
noncomputable def rEqA (K : PySem.W.Frag) (neg : Bool) : R2 := fun x y H Q => match x, y with
 | .ref a, .ref b => ∃ n d e, n ≤ 60 ∧ Den K H n (.ref a) d ∧ Den K H n (.ref b) e ∧ ((d = e ∧ Q (.bl (!neg)) H) ∨ (d ≠ e ∧ Q (.bl neg) H))
 | x, y => scal x y = true ∧ Q (.bl (if neg then !decide (x = y) else decide (x = y))) H
section
variable {X : Cx}
open Classical in
theorem op_eqA (hu : X.A.units + 64 < cLine) : OpR X (compareOp .Eq) (rEqA X.K false) := by
 intro pins s σ H x y v u Q I rx ry h
 unfold rEqA at h
 split at h
 ·obtain ⟨n, d, e, hn, hd, he, q⟩ := h
  obtain ⟨_, rc⟩ := den_rc n (A := X.A) I (by omega) rx ry hd he
  cases rx
  cases ry
  have := rc _ _ rfl rfl
  refine (this X.prog X.w _ _ ?_ : wpAny (model X.prog X.w) X.A (richCompare .Eq _ _) (EP X pins σ Q) X.xe s)
  rcases q with ⟨c, q⟩ | ⟨c, q⟩
  ·rw [decide_eq_true c]; exact ⟨.bl true, H, I, rfl, q⟩
  ·rw [decide_eq_false c]; exact ⟨.bl false, H, I, rfl, q⟩
 ·exact op_eq pins s σ H _ _ v u Q I rx ry ⟨h.1, by simpa using h.2⟩
open Classical in
theorem op_neA (hu : X.A.units + 64 < cLine) : OpR X (compareOp .NotEq) (rEqA X.K true) := by
 intro pins s σ H x y v u Q I rx ry h
 unfold rEqA at h
 split at h
 ·rename_i a b
  obtain ⟨n, d, e, hn, hd, he, q⟩ := h
  cases rx
  cases ry
  have hu' : X.A.units < cLine := by omega
  have fin : SeqAt.RcNeAt X.A s (.ref a) (.ref b) (!decide (d = e)) → wpAny (model X.prog X.w) X.A (compareOp .NotEq (.ref a) (.ref b)) (EP X pins σ Q) X.xe s := fun rc => by
   refine (rc X.prog X.w _ _ ?_ : wpAny (model X.prog X.w) X.A (richCompare .NotEq _ _) (EP X pins σ Q) X.xe s)
   rcases q with ⟨c, q⟩ | ⟨c, q⟩
   ·rw [decide_eq_true c]; exact ⟨.bl false, H, I, rfl, q⟩
   ·rw [decide_eq_false c]; exact ⟨.bl true, H, I, rfl, q⟩
  apply fin
  clear fin q
  rcases hd.cases with hx' | ⟨m, hm, a', xs, ds, e1, rfl, ha, pa⟩ | ⟨m, hm, a', xs, ds, e1, rfl, ha, pa⟩
  ·rcases hx' with ⟨z, _⟩ | ⟨i, z, _⟩ | ⟨i, z, _⟩ <;> cases z
  ·cases e1
   obtain ⟨its, r1, p, hz⟩ := I.list ha
   rcases he.cases with hy' | ⟨k, hk, b', ys, es, e2, rfl, hb, pb⟩ | ⟨k, hk, b', ys, es, e2, rfl, hb, pb⟩
   ·rcases hy' with ⟨z, _⟩ | ⟨i, z, _⟩ | ⟨i, z, _⟩ <;> cases z
   ·cases e2
    obtain ⟨its2, r2, p2, hz2⟩ := I.list hb
    have l1 := r1.length
    have l2 := r2.length
    have l3 := Paired.length pa
    have l4 := Paired.length pb
    have eqd : decide (Dt.l ds = Dt.l es) = decide (ds = es) := by
     rw [Bool.eq_iff_iff, decide_eq_true_eq, decide_eq_true_eq]
     exact ⟨fun q => Dt.l.inj q, fun q => by rw [q]⟩
    rw [eqd]
    by_cases hl : its.length = its2.length
    ·have key := SeqAt.RcNeAt.lists (e := fun j => decide (ds[j]? = es[j]?)) p.isList p2.isList (by simpa using hl) hu' (den_items (n := n) r1 r2 pa pb fun x y u v d e rx ry h1 h2 =>
      (den_rc (max m k) (A := X.A.in1) I (by show X.A.units + 1 + max m k < cLine; omega) rx ry (h1.up (Nat.le_max_left _ _)) (h2.up (Nat.le_max_right _ _))).1)
     rw [all_items (by rw [List.size_toArray]; omega) (by omega)] at key
     exact key
    ·have hne : ds ≠ es := fun q => hl (by rw [q] at l3; omega)
     rw [decide_eq_false hne]
     exact SeqAt.RcNeAt.lists_lengths p.isList p2.isList (size_ne hl) hu'
   ·cases e2
    obtain ⟨its2, r2, p2, _⟩ := I.tuple hb
    rw [decide_eq_false (fun z => nomatch z)]
    exact SeqAt.RcNeAt.list_tuple p.isList p2 hu'
  ·cases e1
   obtain ⟨its, r1, p, hz⟩ := I.tuple ha
   rcases he.cases with hy' | ⟨k, hk, b', ys, es, e2, rfl, hb, pb⟩ | ⟨k, hk, b', ys, es, e2, rfl, hb, pb⟩
   ·rcases hy' with ⟨z, _⟩ | ⟨i, z, _⟩ | ⟨i, z, _⟩ <;> cases z
   ·cases e2
    obtain ⟨its2, r2, p2, _⟩ := I.list hb
    rw [decide_eq_false (fun z => nomatch z)]
    exact SeqAt.RcNeAt.tuple_list p p2.isList hu'
   ·cases e2
    obtain ⟨its2, r2, p2, hz2⟩ := I.tuple hb
    have l1 := r1.length
    have l2 := r2.length
    have l3 := Paired.length pa
    have l4 := Paired.length pb
    have eqd : decide (Dt.t ds = Dt.t es) = decide (ds = es) := by
     rw [Bool.eq_iff_iff, decide_eq_true_eq, decide_eq_true_eq]
     exact ⟨fun q => Dt.t.inj q, fun q => by rw [q]⟩
    rw [eqd]
    have key := SeqAt.RcNeAt.tuples (e := fun j => decide (ds[j]? = es[j]?)) p p2 hu' (den_items (n := n) r1 r2 pa pb fun x y u v d e rx ry h1 h2 =>
      (den_rc (max m k) (A := X.A.in1) I (by show X.A.units + 1 + max m k < cLine; omega) rx ry (h1.up (Nat.le_max_left _ _)) (h2.up (Nat.le_max_right _ _))).1)
    by_cases hl : its.length = its2.length
    ·rw [show min its.toArray.size its2.toArray.size = ds.length by rw [List.size_toArray, List.size_toArray]; omega, all_items rfl (by omega), show (its.toArray.size == its2.toArray.size) = true by rw [List.size_toArray, List.size_toArray, beq_iff_eq]; exact hl, Bool.and_true] at key
     exact key
    ·have hne : ds ≠ es := fun q => hl (by rw [q] at l3; omega)
     rw [decide_eq_false hne]
     rw [show (its.toArray.size == its2.toArray.size) = false by rw [List.size_toArray, List.size_toArray, beq_eq_false_iff_ne]; exact hl, Bool.and_false] at key
     exact key
 ·exact op_ne pins s σ H _ _ v u Q I rx ry ⟨h.1, by simpa using h.2⟩
end
section
variable {K : PySem.W.Frag} {H : Hp} {Q : VK}
theorem rEqA_int {i j : Int} : rEqA K false (.int i) (.int j) H Q = Q (.bl (decide (i = j))) H := by
 show (scal (.int i) (.int j) = true ∧ Q (.bl (if false = true then _ else decide (V.int i = V.int j))) H) = _
 rw [if_neg Bool.false_ne_true]
 exact rEq_int
theorem rNeA_int {i j : Int} : rEqA K true (.int i) (.int j) H Q = Q (.bl (!decide (i = j))) H := by
 show (scal (.int i) (.int j) = true ∧ Q (.bl (if true = true then !decide (V.int i = V.int j) else _)) H) = _
 rw [if_pos rfl]
 exact rNe_int
theorem rEqA_str {i j : Str} : rEqA K false (.str i) (.str j) H Q = Q (.bl (decide (i = j))) H := by
 show (scal (.str i) (.str j) = true ∧ Q (.bl (if false = true then _ else decide (V.str i = V.str j))) H) = _
 rw [if_neg Bool.false_ne_true]
 exact rEq_str
theorem rNeA_str {i j : Str} : rEqA K true (.str i) (.str j) H Q = Q (.bl (!decide (i = j))) H := by
 show (scal (.str i) (.str j) = true ∧ Q (.bl (if true = true then !decide (V.str i = V.str j) else _)) H) = _
 rw [if_pos rfl]
 exact rNe_str
theorem rEqA_bl {i j : Bool} : rEqA K false (.bl i) (.bl j) H Q = Q (.bl (decide (i = j))) H := by
 show (scal (.bl i) (.bl j) = true ∧ Q (.bl (if false = true then _ else decide (V.bl i = V.bl j))) H) = _
 rw [if_neg Bool.false_ne_true]
 exact rEq_bl
theorem rNeA_bl {i j : Bool} : rEqA K true (.bl i) (.bl j) H Q = Q (.bl (!decide (i = j))) H := by
 show (scal (.bl i) (.bl j) = true ∧ Q (.bl (if true = true then !decide (V.bl i = V.bl j) else _)) H) = _
 rw [if_pos rfl]
 exact rNe_bl
theorem den_ints {n : Nat} : ∀ {ns : List Int}, Paired (Den K H n) (ns.map V.int) (ns.map Dt.int)
 | [] => .nil
 | i :: ns => .cons (Den.up (n := 0) (.inr (.inl ⟨i, rfl, rfl⟩)) (Nat.zero_le _)) den_ints
theorem den_list {a : Addr} {ns : List Int} (h : SqL K H a (ns.map V.int)) : Den K H 1 (.ref a) (.l (ns.map Dt.int)) := .inr (.inl ⟨a, _, _, rfl, rfl, h, den_ints⟩)
theorem den_tup {a : Addr} {ns : List Int} (h : SqT K H a (ns.map V.int)) : Den K H 1 (.ref a) (.t (ns.map Dt.int)) := .inr (.inr ⟨a, _, _, rfl, rfl, h, den_ints⟩)
end
end L2
set_option maxRecDepth 100000
namespace L2
open PySem PySem.Spec PyProof.Rows
noncomputable def csOk (osc scope : Scope) (ON N : List Str) (nv : Nat) (ix : List Nat) : Bool :=
 scope.kind == .function && scope.names.all (fun y => y.2 != .cell && (y.2 != .local || scope.names.lookup y.1 == some .local) && (y.2 != .free || (osc.names.lookup y.1 == some .cell || osc.names.lookup y.1 == some .free))) &&
  N.length == nv + ix.length && (List.range ix.length).all fun j => match N[nv + j]?, ix[j]? with
   | some y, some i => ON[i]? == some y && (osc.names.lookup y == some .cell || osc.names.lookup y == some .free) && scope.names.lookup y == some .free
   | _, _ => false
theorem cs_of {X : Cx} {scope : Scope} {N : List Str} {nv : Nat} {ix : List Nat} (h : csOk X.env.scope scope X.N N nv ix = true) : CScope X scope N nv ix := by
 unfold csOk at h
 simp only [Bool.and_eq_true, beq_iff_eq, List.all_eq_true, List.mem_range, Bool.or_eq_true, bne_iff_ne, ne_eq] at h
 obtain ⟨⟨⟨h1, h2⟩, h3⟩, h4⟩ := h
 refine ⟨h1, fun y hy => (h2 y hy).1.1, fun y hy hl => ?_, fun y hy hf => ?_, h3, fun j y e => ?_⟩
 ·rcases (h2 y hy).1.2 with z | z
  ·exact absurd hl z
  ·exact z
 ·rcases (h2 y hy).2 with z | z
  ·exact absurd hf z
  ·exact z
 ·have hj : j < ix.length := by
   have := (List.getElem?_eq_some_iff.mp e).1
   omega
  have q := h4 j hj
  rw [e, List.getElem?_eq_getElem hj] at q
  simp only [Bool.and_eq_true, beq_iff_eq, Bool.or_eq_true] at q
  exact ⟨ix[j], List.getElem?_eq_getElem hj, q.1.1, q.1.2, q.2⟩
noncomputable def tTC (K : PySem.W.Frag) (vs : List V) : TE := fun _ H Q => ∀ a, (∀ H, SqT K H a vs) → (∀ H, tyV K "tuple" (.ref a) H) → Q (.ref a) H
section
variable {X : Cx}
noncomputable def rAll (K : PySem.W.Frag) (any : Bool) : List V → Hp → VK → Prop := fun xs H Q => match xs with
 | [.ref p] => ∃ bs : List Bool, SqL K H p (bs.map V.bl) ∧ Q (.bl (if any then bs.any id else bs.all id)) H
 | _ => False
noncomputable def rSum (K : PySem.W.Frag) : List V → Hp → VK → Prop := fun xs H Q => match xs with
 | [.ref p] => ∃ ns : List Int, SqL K H p (ns.map V.int) ∧ Q (.int ns.sum) H
 | _ => False
theorem rAll_ref {K : PySem.W.Frag} {p : Addr} {H : Hp} {Q : VK} : rAll K false [.ref p] H Q = (∃ bs : List Bool, SqL K H p (bs.map V.bl) ∧ Q (.bl (bs.all id)) H) := rfl
theorem rAny_ref {K : PySem.W.Frag} {p : Addr} {H : Hp} {Q : VK} : rAll K true [.ref p] H Q = (∃ bs : List Bool, SqL K H p (bs.map V.bl) ∧ Q (.bl (bs.any id)) H) := rfl
theorem rSum_ref {K : PySem.W.Frag} {p : Addr} {H : Hp} {Q : VK} : rSum K [.ref p] H Q = (∃ ns : List Int, SqL K H p (ns.map V.int) ∧ Q (.int ns.sum) H) := rfl
noncomputable def rListA (K : PySem.W.Frag) : List V → Hp → VK → Prop := fun xs H Q => match xs with
 | [.ref p] => ∃ ys, (SqL K H p ys ∨ SqT K H p ys) ∧ ∀ l, H l = none → Q (.ref l) (upd H l (.lst ys))
 | _ => False
theorem call_listA : CallR X (.type "list") (rListA X.K) := CallR.imp call_list_of fun xs H Q h => by
 unfold rListA at h
 split at h
 ·obtain ⟨ys, h1, h2⟩ := h
  exact ⟨_, ys, rfl, h1, h2⟩
 ·exact h.elim
noncomputable def rTupleA (K : PySem.W.Frag) : List V → Hp → VK → Prop := fun xs H Q => match xs with
 | [.ref p] => ∃ ys, (SqL K H p ys ∧ ∀ l, H l = none → Q (.ref l) (upd H l (.tup ys))) ∨ (SqT K H p ys ∧ Q (.ref p) H)
 | _ => False
theorem call_tupleA : CallR X (.type "tuple") (rTupleA X.K) := CallR.imp call_tuple_of fun xs H Q h => by
 unfold rTupleA at h
 split at h
 ·obtain ⟨ys, h⟩ := h
  exact ⟨_, ys, rfl, h⟩
 ·exact h.elim
theorem rListA_ref {K : PySem.W.Frag} {p : Addr} {H : Hp} {Q : VK} : rListA K [.ref p] H Q = (∃ ys, (SqL K H p ys ∨ SqT K H p ys) ∧ ∀ l, H l = none → Q (.ref l) (upd H l (.lst ys))) := rfl
theorem rTupleA_ref {K : PySem.W.Frag} {p : Addr} {H : Hp} {Q : VK} : rTupleA K [.ref p] H Q = (∃ ys, (SqL K H p ys ∧ ∀ l, H l = none → Q (.ref l) (upd H l (.tup ys))) ∨ (SqT K H p ys ∧ Q (.ref p) H)) := rfl
noncomputable def rDivmodA : List V → Hp → VK → Prop := fun xs H Q => match xs with
 | [.int i, .int j] => CDiv i j ∧ ∀ p, H p = none → Q (.ref p) (upd H p (.tup [.int (i / j), .int (i % j)]))
 | _ => False
theorem rDivmodA_int {i j : Int} {H : Hp} {Q : VK} : rDivmodA [.int i, .int j] H Q = (CDiv i j ∧ ∀ p, H p = none → Q (.ref p) (upd H p (.tup [.int (i / j), .int (i % j)]))) := rfl
noncomputable def rAppendA : V → List V → Hp → VK → Prop := fun x vs H Q => match x, vs with
 | .ref l, [y] => ∃ xs, H l = some (.lst xs) ∧ xs.length < sizeLine ∧ Q .non (upd H l (.lst (xs ++ [y])))
 | _, _ => False
theorem mt_appendA : MtR X "list.append" rAppendA := by
 intro pins s σ H x xs v us Q I rx rs q
 unfold rAppendA at q
 split at q
 ·obtain ⟨ys, h1, h2, h3⟩ := q
  exact mt_append pins s σ H _ _ v us Q I rx rs ⟨_, ys, _, rfl, rfl, h1, h2, h3⟩
 ·exact q.elim
theorem pe_append {o e : Expr} {to te : TE} {apos cpos : Pos} (ho : PE X o to) (he : PE X e te) (hbase : attributeBase o "append" X.env (eval o X.env) = eval o X.env := by rfl)
  (hfew : ((backTo cpos (starEach [e] X.env)).all (fun x => !x.1) && (backToKw cpos (keywordEach [] X.env)).all (fun x => x.1.isSome)
   && decide ([e].length + ([] : List Keyword).length + (if ([] : List Keyword).isEmpty then 0 else 1) < 30)) = true := by rfl)
  (hline : (apos.endLine == cpos.line) = true := by rfl) (hs : starEach [e] X.env = (false, eval e X.env) :: starEach [] X.env := by rfl) (hplain : (backTo cpos (starEach [] X.env)).any (·.1) = false := by rfl) :
  PE X (.Call (.Attribute o "append" apos) [e] [] cpos) (tBM X.K "list" rAppendA to (tCons te tNil)) :=
 pe_bm F.plainAttrs_list F.slot_list_append F.type_list_append mt_appendA ho (pa_cons he pa_nil hs) hbase hfew hline hs hplain
theorem tyV_list {K : PySem.W.Frag} {a : Addr} {xs : List V} {H : Hp} (h : SqL K H a xs) : tyV K "list" (.ref a) H := .inl ⟨rfl, xs, h⟩
theorem rAppendA_ref {l : Addr} {y : V} {H : Hp} {Q : VK} : rAppendA (.ref l) [y] H Q = (∃ xs, H l = some (.lst xs) ∧ xs.length < sizeLine ∧ Q .non (upd H l (.lst (xs ++ [y])))) := rfl
noncomputable def rSetA : V → V → V → Hp → (Hp → Prop) → Prop := fun o i v H Q => match o, i with
 | .ref p, .int k => ∃ xs j, H p = some (.lst xs) ∧ ixN xs.length k = some j ∧ Q (upd H p (.lst (xs.set j v)))
 | _, _ => False
theorem rSetA_ref {p : Addr} {k : Int} {v : V} {H : Hp} {Q : Hp → Prop} : rSetA (.ref p) (.int k) v H Q = (∃ xs j, H p = some (.lst xs) ∧ ixN xs.length k = some j ∧ Q (upd H p (.lst (xs.set j v)))) := rfl
noncomputable def rIxA (K : PySem.W.Frag) : R2 := fun x y H Q => match x, y with
 | .ref p, .int i => ∃ xs v, (SqL K H p xs ∨ SqT K H p xs) ∧ atI xs i = some v ∧ Q v H
 | .str z, .int i => ∃ c, z.length ≤ sizeLine ∧ atI z.cps.toList i = some c ∧ Q (.str ⟨#[c]⟩) H
 | _, _ => False
theorem IxR.imp {r r' : R2} (h : IxR X r) (i : ∀ x y H Q, r' x y H Q → r x y H Q) : IxR X r' := fun value slice pins s σ H x y v u Q I rx ry q hs => h value slice pins s σ H x y v u Q I rx ry (i _ _ _ _ q) hs
theorem ix_A : IxR X (rIxA X.K) := IxR.imp ix_seq fun x y H Q h => by
 unfold rIxA at h
 split at h
 ·obtain ⟨xs, v, h1, h2, h3⟩ := h
  rcases h1 with h1 | h1
  ·exact .inl ⟨_, xs, _, v, rfl, rfl, h1, h2, h3⟩
  ·exact .inr (.inl ⟨_, xs, _, v, rfl, rfl, h1, h2, h3⟩)
 ·obtain ⟨c, h1, h2, h3⟩ := h
  exact .inr (.inr ⟨_, _, c, rfl, rfl, h1, h2, h3⟩)
 ·exact h.elim
theorem rIxA_str {K : PySem.W.Frag} {z : Str} {i : Int} {H : Hp} {Q : VK} : rIxA K (.str z) (.int i) H Q = (∃ c, z.length ≤ sizeLine ∧ atI z.cps.toList i = some c ∧ Q (.str ⟨#[c]⟩) H) := rfl
theorem ixA_list {K : PySem.W.Frag} {p : Addr} {i : Int} {H : Hp} {Q : VK} {xs : List V} {v : V} (h : SqL K H p xs) (e : atI xs i = some v) (q : Q v H) : rIxA K (.ref p) (.int i) H Q := ⟨xs, v, .inl h, e, q⟩
theorem ixA_tup {K : PySem.W.Frag} {p : Addr} {i : Int} {H : Hp} {Q : VK} {xs : List V} {v : V} (h : SqT K H p xs) (e : atI xs i = some v) (q : Q v H) : rIxA K (.ref p) (.int i) H Q := ⟨xs, v, .inr h, e, q⟩
theorem ixA_ints {K : PySem.W.Frag} {H : Hp} {a : Addr} {ns : List Int} {k : Int} {Q : VK} (hS : SqL K H a (ns.map V.int)) (h0 : 0 ≤ k) (h1 : k < (ns.length : Int)) (q : Q (.int (ns.getD k.toNat 0)) H) : rIxA K (.ref a) (.int k) H Q := by
 refine ixA_list hS ?_ q
 obtain ⟨j, rfl⟩ : ∃ j : Nat, k = (j : Int) := ⟨k.toNat, by omega⟩
 refine atI_nat ?_
 have hj : j < ns.length := by omega
 rw [List.getElem?_map, List.getElem?_eq_getElem hj]
 simp [List.getD, hj]
end
section
variable {K : PySem.W.Frag} {H : Hp} {σ : St}
theorem gTup_ref {n : Nat} {t : TGs} {a : Addr} {Q : St → Hp → Prop} : gTup K n t (.ref a) σ H Q = (∃ xs, SqT K H a xs ∧ xs.length = n ∧ t xs σ H Q) := by
 apply propext
 constructor
 ·rintro ⟨b, xs, e, h⟩
  cases e
  exact ⟨xs, h⟩
 ·rintro ⟨xs, h⟩
  exact ⟨a, xs, rfl, h⟩
theorem gCons_cons {t : TG} {u : TGs} {v : V} {r : List V} {Q : St → Hp → Prop} : gCons t u (v :: r) σ H Q = t v σ H fun σ' H' => u r σ' H' Q := by
 apply propext
 constructor
 ·rintro ⟨v', r', e, h⟩
  cases e
  exact h
 ·intro h
  exact ⟨v, r, rfl, h⟩
theorem gNil_nil {Q : St → Hp → Prop} : gNil [] σ H Q = Q σ H := by
 apply propext
 exact ⟨fun h => h.2, fun h => ⟨rfl, h⟩⟩
theorem ex_int {i : Int} {P : Int → Prop} : (∃ k, V.int i = .int k ∧ P k) = P i := by
 apply propext
 constructor
 ·rintro ⟨k, e, q⟩
  cases e; exact q
 ·intro q; exact ⟨i, rfl, q⟩
theorem small_line {n : Nat} (h : n ≤ 1000) : (n ≤ sizeLine) = True := by
 have := sizeLine_eq
 simp only [eq_iff_iff, iff_true]
 omega
theorem small_lt {n : Nat} (h : n ≤ 1000) : (n < sizeLine) = True := by
 have := sizeLine_eq
 simp only [eq_iff_iff, iff_true]
 omega
end
end L2
set_option maxRecDepth 100000
namespace L2
open PySem PySem.Spec PyProof.Rows
section
variable {X : Cx} (K : PySem.W.Frag) (h : X.K = K)
theorem op_addK (h : X.K = K) : OpR X (binaryOp .Add) (rAddA K) := h ▸ op_addA
theorem call_lenK (h : X.K = K) : CallR X (.builtin "len") (rLenA K) := h ▸ call_lenA
theorem call_isiK (h : X.K = K) : CallR X (.builtin "isinstance") (rIsi K) := h ▸ call_isi
theorem sl_K (h : X.K = K) : SlR X (rSlA K) := h ▸ sl_A
theorem ix_K (h : X.K = K) : IxR X (rIxA K) := h ▸ ix_A
theorem pi_seqK {tg l : Expr} {tl : TE} (h : X.K = K) (hl : PE X l tl) : PI X tg l (iSeq K tl) := h ▸ pi_seq hl
theorem op_eqK (h : X.K = K) (hu : X.A.units + 64 < cLine) : OpR X (compareOp .Eq) (rEqA K false) := h ▸ op_eqA hu
theorem op_neK (h : X.K = K) (hu : X.A.units + 64 < cLine) : OpR X (compareOp .NotEq) (rEqA K true) := h ▸ op_neA hu
theorem call_listK (h : X.K = K) : CallR X (.type "list") (rListA K) := h ▸ call_listA
theorem call_tupleK (h : X.K = K) : CallR X (.type "tuple") (rTupleA K) := h ▸ call_tupleA
theorem pg_tupK {es : List Expr} {k : Nat} {pos : Pos} {t : TGs} {n : Nat} (h : X.K = K) (hc : X.calm = true) (hh : PGs X es t)
  (hn : (assignEach es X.env).length = n := by rfl) (hst : (assignEach es X.env).findIdx? (·.1) = none := by rfl) : PG X (.Tuple es k pos) (gTup K n t) := h ▸ pg_tup hc hh hn hst
theorem pe_appendK {o e : Expr} {to te : TE} {apos cpos : Pos} (h : X.K = K) (ho : PE X o to) (he : PE X e te) (hbase : attributeBase o "append" X.env (eval o X.env) = eval o X.env := by rfl)
  (hfew : ((backTo cpos (starEach [e] X.env)).all (fun x => !x.1) && (backToKw cpos (keywordEach [] X.env)).all (fun x => x.1.isSome)
   && decide ([e].length + ([] : List Keyword).length + (if ([] : List Keyword).isEmpty then 0 else 1) < 30)) = true := by rfl)
  (hline : (apos.endLine == cpos.line) = true := by rfl) (hs : starEach [e] X.env = (false, eval e X.env) :: starEach [] X.env := by rfl) (hplain : (backTo cpos (starEach [] X.env)).any (·.1) = false := by rfl) :
  PE X (.Call (.Attribute o "append" apos) [e] [] cpos) (tBM K "list" rAppendA to (tCons te tNil)) := h ▸ pe_append ho he hbase hfew hline hs hplain
end
noncomputable def tMid (t u : TS) : TS := fun D σ H => ∃ M : St → Hp → Prop, t { D with nx := M } σ H ∧ ∀ σ' H', M σ' H' → u D σ' H'
theorem pss_mid {X : Cx} {st : Stmt} {rest : List Stmt} {t u : TS} (h1 : PS X st t) (h2 : PSs X rest u) : PSs X (st :: rest) (tMid t u) := by
 intro pins s σ H D I ⟨M, h, k⟩
 refine wpAny_execs_cons (thn (h1 pins s σ H { D with nx := M } I h) fun f s1 q => ?_)
 cases f with
 | next =>
  obtain ⟨σ', H', I', q⟩ := q
  exact h2 pins s1 σ' H' D I' (k σ' H' q)
 | ret v => exact q
 | brk => exact q
 | cont => exact q
end L2
set_option maxRecDepth 100000
namespace L2
open PySem PySem.Spec PyProof.Rows
noncomputable def isStar : Expr → Bool
 | .Starred .. => true
 | _ => false
theorem starEach_of {e : Expr} {es : List Expr} {env : Env} (h : isStar e = false) : starEach (e :: es) env = (false, eval e env) :: starEach es env := by
 cases e <;> first | rfl | exact absurd h (by simp [isStar])
theorem noStars {pos : Pos} {env : Env} : ∀ {es : List Expr}, es.any isStar = false → (backTo pos (starEach es env)).any (·.1) = false
 | [], _ => rfl
 | e :: es, h => by
  rw [List.any_cons, Bool.or_eq_false_iff] at h
  rw [starEach_of h.1]
  show (false || (backTo pos (starEach es env)).any (·.1)) = false
  rw [noStars h.2]
  rfl
theorem assignEach_of {e : Expr} {es : List Expr} {env : Env} (h : isStar e = false) : (assignEach (e :: es) env).map (·.2) = assign e env :: (assignEach es env).map (·.2) := by
 cases e <;> first | rfl | exact absurd h (by simp [isStar])
theorem assignEach_len {env : Env} : ∀ {es : List Expr}, (assignEach es env).length = es.length
 | [] => rfl
 | e :: es => by
  have ih := @assignEach_len env es
  cases e <;> (show (assignEach es env).length + 1 = es.length + 1; rw [ih])
theorem assignEach_nostar {env : Env} : ∀ {es : List Expr}, es.any isStar = false → (assignEach es env).findIdx? (·.1) = none
 | [], _ => rfl
 | e :: es, h => by
  rw [List.any_cons, Bool.or_eq_false_iff] at h
  have ih := assignEach_nostar (env := env) h.2
  have e1 : assignEach (e :: es) env = (false, assign e env) :: assignEach es env := by
   have := h.1
   cases e <;> first | rfl | exact absurd this (by simp [isStar])
  rw [e1, List.findIdx?_cons, ih]
  rfl
noncomputable def plainTest : Expr → Bool
 | .UnaryOp .Not _ _ => false
 | .BoolOp .. => false
 | .IfExp .. => false
 | .Compare .. => false
 | _ => true
theorem isTrue_of {e : Expr} {env : Env} (h : plainTest e = true) (whole : Sem Value) : isTrue e env whole = (do let v ← whole; standAt e.pos; holding [v] (truthy v)) := by
 cases e with
 | UnaryOp op a p => cases op <;> first | rfl | exact absurd h (by simp [plainTest])
 | BoolOp => exact absurd h (by simp [plainTest])
 | IfExp => exact absurd h (by simp [plainTest])
 | Compare => exact absurd h (by simp [plainTest])
 | _ => rfl
section
variable {X : Cx} {CX : CXT} {k n : Nat} {ps : List Str} {sp : Sp} {x : Str} {p pos : Pos} {e : Expr} {es : List Expr} {t : TA} {te : TE} {id T : String} {r : List V → Hp → VK → Prop}
theorem pa_q (ha : PE X e te) (hr : PA X es t) (h : isStar e = false := by rfl) : PA X (e :: es) (tCons te t) := pa_cons ha hr (starEach_of h)
theorem pe_fnQ [Quiet CX] (G : FnAt X.prog X.w X.K X.mg X.base CX x k ps sp) (hr : Room n X.A) (hk : k ≤ n) (hg : Gl X x) (ha : PA X (e :: es) t)
  (hdb : (x == ("__debug__" : Str)) = false := by decide) (h : (e :: es).any isStar = false := by rfl) : PE X (.Call (.Name x p) (e :: es) [] pos) (tCall sp [] E0 t) := by
 rw [List.any_cons, Bool.or_eq_false_iff] at h
 exact pe_fn G hr hk hg ha hdb (starEach_of h.1) (noStars h.2)
theorem pe_callBQ (hc : CallR X (.builtin id) r) (hg : Gl X x) (hm : X.mg x = none) (hv : bootBuiltins x = some (.builtin id)) (ha : PA X (e :: es) t) (hn : x ≠ "__name__" := by decide) (hdb : (x == ("__debug__" : Str)) = false := by decide)
  (h : (e :: es).any isStar = false := by rfl) : PE X (.Call (.Name x p) (e :: es) [] pos) (tCB r t) := by
 rw [List.any_cons, Bool.or_eq_false_iff] at h
 exact pe_callB hc hg hm hv ha hn hdb (starEach_of h.1) (noStars h.2)
theorem pe_callTyQ (hc : CallR X (.type T) r) (hg : Gl X x) (hm : X.mg x = none) (hv : bootBuiltins x = some (.type T)) (ha : PA X (e :: es) t) (hn : x ≠ "__name__" := by decide) (hdb : (x == ("__debug__" : Str)) = false := by decide)
  (h : (e :: es).any isStar = false := by rfl) : PE X (.Call (.Name x p) (e :: es) [] pos) (tCB r t) := by
 rw [List.any_cons, Bool.or_eq_false_iff] at h
 exact pe_callTy hc hg hm hv ha hn hdb (starEach_of h.1) (noStars h.2)
theorem pgs_q {g : TG} {u : TGs} (h1 : PG X e g) (h2 : PGs X es u) (h : isStar e = false := by rfl) : PGs X (e :: es) (gCons g u) := pgs_cons h1 h2 (assignEach_of h)
theorem pg_tupQ (K : PySem.W.Frag) {j n : Nat} {u : TGs} (hK : X.K = K) (hc : X.calm = true) (hh : PGs X es u) (hn : es.length = n := by rfl) (h : es.any isStar = false := by rfl) : PG X (.Tuple es j pos) (gTup K n u) :=
 pg_tupK K hK hc hh (by rw [assignEach_len]; exact hn) (assignEach_nostar h)
theorem pt_q (he : PE X e te) (h : plainTest e = true := by rfl) : PT X e (tB te) := pt_val he (isTrue_of h)
end
end L2
namespace L2
open PySem PySem.Spec PyProof.Rows
noncomputable def isComp : Expr → Bool
 | .ListComp .. => true
 | .SetComp .. => true
 | .DictComp .. => true
 | _ => false
noncomputable def isTup : Expr → Bool
 | .Tuple .. => true
 | _ => false
noncomputable def isSetE : Expr → Bool
 | .Set .. => true
 | _ => false
theorem swaps_of {e : Expr} {tg : Option Expr} {l : Nat} {env : Env} (h : isComp e = false) : swapsWith e tg l env = pure false := by
 cases e <;> first | rfl | exact absurd h (by simp [isComp])
theorem stores_of {tg e : Expr} {env : Env} (h : isTup e = false) : swappedStores [tg] e env = pure none := by
 cases e with
 | Tuple => simp [isTup] at h
 | _ => cases tg <;> rfl
theorem nomarkQ {op : CmpOp} {b : Expr} (h : isSetE b = false) : behindInMarks op b = false := by
 cases b <;> first | rfl | exact absurd h (by simp [isSetE])
section
variable {X : Cx} {pos : Pos}
theorem ps_asgQ {tg e : Expr} {te : TE} {g : TG} (he : PE X e te) (hg : PG X tg g) (h1 : isComp e = false := by rfl) (h2 : isTup e = false := by rfl) (h3 : isStar tg = false := by rfl) : PS X (.Assign [tg] e pos) (tAsg te g) :=
 ps_asg he hg (swaps_of h1) (stores_of h2) (assignEach_of h3)
theorem ps_setQ {i : Nat} {x : Str} {e : Expr} {te : TE} {pos' : Pos} (hN : X.N.Nodup) (hi : X.N[i]? = some x) (hx : Loc X.env.scope x) (he : PE X e te) (h : isComp e = false := by rfl) (hf : X.fn x = true ∨ X.env.scope.names.lookup x = some .local := by first | exact .inl rfl | exact .inr rfl | assumption) :
  PS X (.Assign [.Name x pos'] e pos) (tAsg te (gName i)) := ps_set hN hi hx he (swaps_of h) hf
theorem ps_exprQ {e : Expr} {te : TE} (he : PE X e te) (h : isComp e = false := by rfl) : PS X (.Expr e pos) (tDrop te) := ps_expr he (swaps_of h)
end
end L2
namespace L2
open PySem PySem.Spec PyProof.Rows
noncomputable def tCs (vs : List V) : TA := fun _ H Q => Q vs H
end L2
namespace L2
open PySem PySem.Spec PyProof.Rows
end L2
namespace BitM
end BitM
namespace Rem
end Rem
namespace BitI
open PySem L2
theorem not_eq (x : Int) : Builtin.bitNot x = -x - 1 := by unfold Builtin.bitNot; omega
theorem or_nat (a b : Nat) : Builtin.bitOr (a : Int) (b : Int) = ((a ||| b : Nat) : Int) := by
 unfold Builtin.bitOr
 rw [PyProof.Rows.bitAnd_nn (by rw [not_eq]; omega) (by rw [not_eq]; omega)]
 have e : ∀ n : Nat, (Builtin.bitNot (Builtin.bitNot (n : Int))) = (n : Int) := fun n => by rw [not_eq, not_eq]; omega
 rw [e a, e b, e]
 simp
end BitI
namespace Com
open PySem L2
theorem same_upd {H : Hp} {p : Addr} {o : HO} (h : H p = none) : Same H (upd H p o) := fun b u e => by rw [upd_ne (ne_of_none e h)]; exact e
theorem same_lst {K : PySem.W.Frag} {H H' : Hp} {a : Addr} {xs : List V} (e : Same H H') (h : SqL K H a xs) : SqL K H' a xs := e.seq h
theorem cut_ints {ns : List Int} {lo hi : Option Int} : cutV (ns.map V.int) lo hi = ((ns.drop (HT.sIx ns.length 0 lo)).take (HT.sIx ns.length ns.length hi - HT.sIx ns.length 0 lo)).map V.int := by
 unfold cutV
 rw [List.length_map, List.map_take, List.map_drop]
theorem upd_old {H : Hp} {p q : Addr} {o x : HO} (h : H p = some x) (hn : H q = none) : upd H q o p = some x := by rw [upd_ne (ne_of_none h hn)]; exact h
theorem addA_lists {K : PySem.W.Frag} {H : Hp} {Q : VK} {l b : Addr} {xs zs : List V} (h1 : H l = some (.lst xs)) (h2 : H b = some (.lst zs)) (hz : xs.length + zs.length ≤ sizeLine) (q : ∀ p, H p = none → Q (.ref p) (upd H p (.lst (xs ++ zs)))) : rAddA K (.ref l) (.ref b) H Q :=
 .inl ⟨l, b, xs, zs, rfl, rfl, h1, h2, hz, q⟩
theorem map_int_get {ns : List Int} {i : Nat} {x : V} (h : (ns.map V.int)[i]? = some x) : ∃ c, x = .int c ∧ ns[i]? = some c := by
 rw [List.getElem?_map] at h
 cases e : ns[i]? with
 | none => rw [e] at h; cases h
 | some c => rw [e] at h; cases h; exact ⟨c, rfl, rfl⟩
theorem small_ok {n : Nat} (h : n ≤ 1000) : n ≤ sizeLine := by rw [sizeLine_eq]; omega
theorem isi_list {K : PySem.W.Frag} {H : Hp} {a : Addr} {xs : List V} {Q : VK} (h : H a = some (.lst xs)) (q : Q (.bl true) H) : rIsi K [.ref a, .ty "list"] H Q := ⟨_, true, .lst h, kit_ll K, q⟩
theorem isi_tup {K : PySem.W.Frag} {H : Hp} {a : Addr} {xs : List V} {Q : VK} (h : H a = some (.tup xs)) (q : Q (.bl true) H) : rIsi K [.ref a, .ty "tuple"] H Q := ⟨_, true, .tup h, kit_tt K, q⟩
theorem fresh_ne {H : Hp} {p q : Addr} {o : HO} (h : upd H p o q = none) : q ≠ p := fun e => by
 subst e
 rw [upd_same] at h
 cases h
end Com
set_option maxRecDepth 100000
namespace L2
open PySem PySem.Spec PyProof.Rows
structure KlsAt (K : PySem.W.Frag) (mg : Str → Option Value) (x : Str) (C : Addr) : Prop where
 mgC : mg x = some (.ref C)
 cl : Cls K C
 mks : PySem.W.makesIn K C = true
 kp : PySem.W.keepIn K (.ref C) = true
noncomputable def MethAt (K : PySem.W.Frag) (C : Addr) (m q : Str) (st : Stmt) : Prop := ∃ f fd, Fun K m q st f fd ∧ Meth K C m f
noncomputable def MtAt (P : Program) (w : World) (K : PySem.W.Frag) (mg : Str → Option Value) (base : Heap) (CX : CXT) (C : Addr) (m : Str) (k : Nat) (ps : List Str) (sp : Sp) : Prop :=
 ∃ f fd, FnOk P w K mg base CX k f fd ps sp ∧ Meth K C m f ∧ Binds K fd ps []
theorem klsat_mk {K : PySem.W.Frag} {h : Heap} {mg : Str → Option Value} {x : Str} {C : Addr} (X : K.In h) (G : h.Ns mainGlobals mg) (a : PySem.W.nsIn K mainGlobals x = some (some (.ref C)))
  (pg : PySem.W.plainGet K C Str.empty = true) (hd : PySem.W.hasDictIn K C = true) (po : PySem.W.plainOver K C = true) (sa : PySem.W.findIn K (.ref C) "__setattr__" = some (some (.builtin "object.__setattr__"))) (mk : PySem.W.makesIn K C = true) (kc : PySem.W.keepIn K (.ref C) = true) : KlsAt K mg x C :=
 ⟨PySem.W.mg_of X G a, ⟨pg, hd, po, sa⟩, mk, kc⟩
theorem methat_mk {K : PySem.W.Frag} {C : Addr} {m q : Str} {st : Stmt} {f : Addr} {oc : Value} {od an : Option Addr} {osl : Array (Option Value)} {kV doc pm cdv ct : Value}
  (a : PySem.W.findIn K (.ref C) m = some (some (.ref f))) (i : PySem.W.isFn K (.ref f) = true)
  (l : K.lookup f = some ⟨oc, od, .func (PySem.W.fnOf m q (defArgs st) (defBody st) (defScope st) .none kV doc pm an cdv ct), osl⟩) (c : PySem.W.codeIn K cdv q = true) (k : PySem.W.keepIn K (.ref f) = true) : MethAt K C m q st :=
 ⟨f, _, fun_mk l c k, ⟨a, i, k⟩⟩
section
variable {P : Program} {w : World} {K : PySem.W.Frag} {mg : Str → Option Value} {base : Heap} {CX : CXT}
theorem MethAt.fn {C : Addr} {m q : Str} {st : Stmt} {N ps : List Str} {k : Nat} {sp : Sp} (F : MethAt K C m q st) (S : FnScope N ps (defScope st))
  (hb : ∀ (kV doc pm : Value) (an : Option Addr) (cdv ct : Value) (us : List Value), us.length = ps.length → bindArgs (PySem.W.fnOf m q (defArgs st) (defBody st) (defScope st) .none kV doc pm an cdv ct) ⟨us, []⟩ = pure (ps.zip us))
  (len : ∀ vs H Q E, sp vs H Q E → vs.length = ps.length)
  (hbody : ∀ (f : Addr) (cdv : Value) (A : Around) (outer : List Env) (s : Shared) (H : Hp) (vs : List V) (Q : VK) (E : XK), Room k (A.deeper (envOfC q (defScope st) s.heap.objs.size f cdv)) → sp vs H Q E →
   ∃ t, PSs (cxOf CX P w K mg base N q (defScope st) f cdv A outer s H E).nox (defBody st) t ∧ t { nx := fun _ H' => Q .non H', rt := Q } (start N vs) H) : MtAt P w K mg base CX C m (k + 1) ps sp := by
 obtain ⟨f, fd, F, hm⟩ := F
 have bd := F.binds hb
 obtain ⟨oc, od, kV, doc, pm, an, cdv, ct, osl, rfl, lk, hcd⟩ := F.ex
 refine ⟨f, _, fn_of lk hcd S len fun A outer s H vs Q E hr hsp => ?_, hm, bd⟩
 obtain ⟨t, h, q⟩ := hbody f cdv A outer s H vs Q E hr hsp
 exact ⟨t, h.nox, q⟩
end
noncomputable def rFld (C : Addr) (f : Str) (x : V) (H : Hp) (Q : VK) : Prop := ∃ a, x = .ref a ∧ ∃ dx fs, H a = some (.ins C dx fs) ∧ ∃ v, fs.lookup f = some v ∧ Q v H
noncomputable def tFldC (C : Addr) (f : Str) (ta : TE) : TE := fun σ H Q => ta σ H fun x H1 => rFld C f x H1 Q
noncomputable def rSetF (C : Addr) (f : Str) (y x : V) (H : Hp) (N : Hp → Prop) : Prop := ∃ a, x = .ref a ∧ ∃ dx fs, H a = some (.ins C dx fs) ∧ fs.length < 1000 ∧ N (upd H a (.ins C dx (putF f y fs)))
noncomputable def sFldC (C : Addr) (f : Str) (ta tv : TE) : TS := fun D σ H => tv σ H fun y H1 => ta σ H1 fun x H2 => rSetF C f y x H2 (D.nx σ)
noncomputable def rAugF (C : Addr) (f : Str) (x : V) (H : Hp) (K : V → (V → Hp → Prop) → Prop) (N : Hp → Prop) : Prop := ∃ a, x = .ref a ∧ ∃ dx fs, H a = some (.ins C dx fs) ∧ ∃ v, fs.lookup f = some v ∧
 K v fun z H3 => ∃ dx' fs', H3 a = some (.ins C dx' fs') ∧ fs'.length < 1000 ∧ N (upd H3 a (.ins C dx' (putF f z fs')))
noncomputable def sAugC (C : Addr) (f : Str) (ta tv : TE) (rd : R2) : TS := fun D σ H => ta σ H fun x H1 => rAugF C f x H1 (fun v R => tv σ H1 fun y H2 => rd v y H2 R) (D.nx σ)
noncomputable def rMt (C : Addr) (m : Str) (x : V) (H : Hp) (N : Prop) : Prop := ∃ a, x = .ref a ∧ ∃ dx fs, H a = some (.ins C dx fs) ∧ fs.lookup m = none ∧ N
noncomputable def tMtC (C : Addr) (m : Str) (sp : Sp) (ta : TE) (t : TA) : TE := fun σ H Q => ta σ H fun x H1 => rMt C m x H1 (t σ H1 fun vs H2 => sp (x :: vs) H2 Q E0)
theorem rFld_ref {C a : Addr} {f : Str} {H : Hp} {Q : VK} : rFld C f (.ref a) H Q = ∃ dx fs, H a = some (.ins C dx fs) ∧ ∃ v, fs.lookup f = some v ∧ Q v H := by
 apply propext; unfold rFld; constructor
 ·rintro ⟨b, e, h⟩; cases e; exact h
 ·exact fun h => ⟨a, rfl, h⟩
theorem rSetF_ref {C a : Addr} {f : Str} {y : V} {H : Hp} {N : Hp → Prop} : rSetF C f y (.ref a) H N = ∃ dx fs, H a = some (.ins C dx fs) ∧ fs.length < 1000 ∧ N (upd H a (.ins C dx (putF f y fs))) := by
 apply propext; unfold rSetF; constructor
 ·rintro ⟨b, e, h⟩; cases e; exact h
 ·exact fun h => ⟨a, rfl, h⟩
theorem rAugF_ref {C a : Addr} {f : Str} {H : Hp} {K : V → (V → Hp → Prop) → Prop} {N : Hp → Prop} : rAugF C f (.ref a) H K N = ∃ dx fs, H a = some (.ins C dx fs) ∧ ∃ v, fs.lookup f = some v ∧
  K v fun z H3 => ∃ dx' fs', H3 a = some (.ins C dx' fs') ∧ fs'.length < 1000 ∧ N (upd H3 a (.ins C dx' (putF f z fs'))) := by
 apply propext; unfold rAugF; constructor
 ·rintro ⟨b, e, h⟩; cases e; exact h
 ·exact fun h => ⟨a, rfl, h⟩
theorem rMt_ref {C a : Addr} {m : Str} {H : Hp} {N : Prop} : rMt C m (.ref a) H N = ∃ dx fs, H a = some (.ins C dx fs) ∧ fs.lookup m = none ∧ N := by
 apply propext; unfold rMt; constructor
 ·rintro ⟨b, e, h⟩; cases e; exact h
 ·exact fun h => ⟨a, rfl, h⟩
theorem ex_ins {C d : Addr} {l : List (Str × V)} {N : Addr → List (Str × V) → Prop} : (∃ dx fs, some (HO.ins C d l) = some (HO.ins C dx fs) ∧ N dx fs) = N d l := by
 apply propext; constructor
 ·rintro ⟨dx, fs, e, h⟩; cases e; exact h
 ·exact fun h => ⟨d, l, rfl, h⟩
theorem ex_som {x : V} {N : V → Prop} : (∃ v, some x = some v ∧ N v) = N x := by
 apply propext; constructor
 ·rintro ⟨v, e, h⟩; cases e; exact h
 ·exact fun h => ⟨x, rfl, h⟩
theorem noattr_mk {K : PySem.W.Frag} {C : Addr} {f : Str} (h : PySem.W.findIn K (.ref C) f = some none) : NoAttr K C f := h
theorem same_new {H : Hp} {x dx C : Addr} {fs : List (Str × V)} (nx : H x = none) (nd : H dx = none) : Same H (upd (upd H dx (.own x)) x (.ins C dx fs)) := fun b o e => by
 rw [upd_ne (ne_of_none e nx), upd_ne (ne_of_none e nd)]; exact e
theorem upd_id {H : Hp} {p : Addr} {o : HO} (h : H p = some o) : upd H p o = H := by
 funext b; unfold upd; split
 ·rename_i e; rw [e, h]
 ·rfl
section
variable {X : Cx} {C : Addr} {o e value : Expr} {es : List Expr} {f m x : Str} {p pos pos' tpos apos : Pos} {ta tv : TE} {t : TA} {k n : Nat} {ps : List Str} {sp : Sp}
theorem pe_fldC (he : PE X e ta) (c : KlsAt X.K X.mg x C) (nn : NoAttr X.K C f) (hb : attributeBase e f X.env (eval e X.env) = eval e X.env) : PE X (.Attribute e f pos) (tFldC C f ta) := by
 intro pins s σ H Q I h
 refine attr_of hb (thn (he pins s σ H _ I h) fun u s1 ⟨x, H1, I1, rx, a, ex, dx, fs, ea, v, l, q⟩ => ?_)
 subst ex
 obtain rfl : u = Value.ref a := rx
 exact getattr_ok I1 ea c.cl nn l fun u' s2 I2 ru => ⟨v, H1, I2, ru, q⟩
theorem ps_fldC (ha : PE X o ta) (hv : PE X value tv) (c : KlsAt X.K X.mg x C) (nn : NoAttr X.K C f) (hs : isComp value = false := by rfl) : PS X (.Assign [.Attribute o f pos'] value pos) (sFldC C f ta tv) := by
 intro pins s σ H D I h
 refine plainObj_wpAny_Assign_Attribute (thn (hv pins s σ H _ I h) fun u s1 ⟨y, H1, I1, ry, q⟩ => thn (ha pins s1 σ H1 _ I1 q) fun ov s2 ⟨x, H2, I2, rx, a, ex, dx, fs, ea, l, q2⟩ => ?_) (swaps_of hs)
 subst ex
 obtain rfl : ov = Value.ref a := rx
 exact setattr_ok I2 ea c.cl nn l ry fun s3 I3 => ⟨σ, _, I3, q2⟩
theorem ps_augC {op : Operator} {rd : R2} (ha : PE X o ta) (hv : PE X value tv) (c : KlsAt X.K X.mg x C) (nn : NoAttr X.K C f) (hop : OpR X (inplaceOp op) rd) : PS X (.AugAssign (.Attribute o f tpos) op value pos) (sAugC C f ta tv rd) := by
 intro pins s σ H D I h
 refine wpAny_AugAssign_AttributeAny (thn (ha pins s σ H _ I h) fun ov s1 ⟨x, H1, I1, rx, a, ex, dx, fs, ea, v, l, q⟩ => ?_)
 subst ex
 obtain rfl : ov = Value.ref a := rx
 refine getattr_ok I1 ea c.cl nn l fun u s2 I2 ru => thn (hv pins s2 σ H1 _ I2 q) fun w3 s3 ⟨y, H2, I3, ry, q3⟩ => thn (hop pins s3 σ H2 v y u w3 _ I3 ru ry q3) fun w4 s4 ⟨z, H3, I4, rz, dx', fs', ea', l', q4⟩ => ?_
 exact setattr_ok I4 ea' c.cl nn l' rz fun s5 I5 => ⟨σ, _, I5, q4⟩
theorem pe_mtC {CX : CXT} [Quiet CX] {pl : Sem Bool} (he : PE X o ta) (c : KlsAt X.K X.mg x C) (G : MtAt X.prog X.w X.K X.mg X.base CX C m k ps sp) (hr : Room n X.A) (hk : k ≤ n) (ha : PA X (e :: es) t) (hst : (e :: es).any isStar = false := by rfl)
  (ht : eval (.Call (.Attribute o m apos) (e :: es) [] pos) X.env = (do
   let ov ← eval o X.env
   standAt apos.atName
   let (f, first) ← holding [ov] (getMethod ov m pl)
   callWith pos f first (backTo pos (starEach (e :: es) X.env)) (backToKw pos (keywordEach [] X.env))) := by rfl) :
  PE X (.Call (.Attribute o m apos) (e :: es) [] pos) (tMtC C m sp ta t) := by
 obtain ⟨f, fd, F, hm, b⟩ := G
 rw [List.any_cons, Bool.or_eq_false_iff] at hst
 intro pins s σ H Q I h
 refine PySem.W.methodCall_KW (pl := pl) (thn (he pins s σ H _ I h) fun u s1 ⟨x, H1, I1, rx, a, ex, dx, fs, ea, l, q⟩ => ?_) ht
 subst ex
 obtain rfl : u = Value.ref a := rx
 refine getmeth_ok I1 ea c.cl hm l ?_
 refine PySem.W.callWith_K (first := [.ref a]) (h₀ := X.base) I.ok.mod.kin hm.kp (thn (ha pos pins s1 σ H1 _ I1 q) fun us s2 ⟨vs, H2, I2, r, q2⟩ => ⟨I2.kIn, ?_⟩) (starEach_of hst.1) (noStars hst.2)
 exact run_fn (us := .ref a :: us) (vs := .ref a :: vs) F (hr.mono hk) b .nil (Quiet.pass X) I2 (.cons rfl r) (by rw [List.append_nil]; exact q2)
theorem pe_mtC0 {CX : CXT} [Quiet CX] {pl : Sem Bool} (he : PE X o ta) (c : KlsAt X.K X.mg x C) (G : MtAt X.prog X.w X.K X.mg X.base CX C m k ps sp) (hr : Room n X.A) (hk : k ≤ n)
  (ht : eval (.Call (.Attribute o m apos) [] [] pos) X.env = (do
   let ov ← eval o X.env
   standAt apos.atName
   let (f, first) ← holding [ov] (getMethod ov m pl)
   callWith pos f first (backTo pos (starEach [] X.env)) (backToKw pos (keywordEach [] X.env))) := by rfl) :
  PE X (.Call (.Attribute o m apos) [] [] pos) (tMtC C m sp ta tNil) := by
 obtain ⟨f, fd, F, hm, b⟩ := G
 intro pins s σ H Q I h
 refine PySem.W.methodCall_KW (pl := pl) (thn (he pins s σ H _ I h) fun u s1 ⟨x, H1, I1, rx, a, ex, dx, fs, ea, l, q⟩ => ?_) ht
 subst ex
 obtain rfl : u = Value.ref a := rx
 refine getmeth_ok I1 ea c.cl hm l ?_
 exact PySem.W.callWith_K0 (first := [.ref a]) I1.kIn hm.kp (run_fn (us := [.ref a]) (vs := [.ref a]) F (hr.mono hk) b .nil (Quiet.pass X) I1 (.cons rfl .nil) q)
theorem pe_mkC {CX : CXT} [Quiet CX] (c : KlsAt X.K X.mg x C) (G : MtAt X.prog X.w X.K X.mg X.base CX C "__init__" k ps sp) (hr : Room n X.A) (hk : k + 1 ≤ n) (hg : Gl X x) (ha : PA X (e :: es) t)
  (hdb : (x == ("__debug__" : Str)) = false := by decide) (h : (e :: es).any isStar = false := by rfl) : PE X (.Call (.Name x p) (e :: es) [] pos) (tMake C sp [] E0 t) := by
 obtain ⟨f, fd, F, hm, b⟩ := G
 rw [List.any_cons, Bool.or_eq_false_iff] at h
 exact pe_make ⟨c.mks, hm.at_, hm.fn, c.kp⟩ F (hr.mono hk) hg c.mgC b .nil (Quiet.pass X) ha hdb (starEach_of h.1) (noStars h.2)
end
end L2
set_option maxRecDepth 100000
namespace L2
open PySem PySem.Spec PyProof.Rows
noncomputable def ixO (K : PySem.W.Frag) (p : Addr) (i : Int) (H : Hp) (Q : VK) : Option HO → Prop
 | some (.lst xs) => ∃ v, atI xs i = some v ∧ Q v H
 | some (.tup xs) => ∃ v, atI xs i = some v ∧ Q v H
 | _ => rIxA K (.ref p) (.int i) H Q
noncomputable def rIxB (K : PySem.W.Frag) : R2 := fun x y H Q => match x, y with
 | .ref p, .int i => ixO K p i H Q (H p)
 | x, y => rIxA K x y H Q
theorem rIxB_ref {K : PySem.W.Frag} {p : Addr} {i : Int} {H : Hp} {Q : VK} : rIxB K (.ref p) (.int i) H Q = ixO K p i H Q (H p) := rfl
theorem rIxB_str {K : PySem.W.Frag} {z : Str} {i : Int} {H : Hp} {Q : VK} : rIxB K (.str z) (.int i) H Q = rIxA K (.str z) (.int i) H Q := rfl
theorem ixO_lst {K : PySem.W.Frag} {p : Addr} {i : Int} {H : Hp} {Q : VK} {xs : List V} : ixO K p i H Q (some (.lst xs)) = ∃ v, atI xs i = some v ∧ Q v H := rfl
theorem ixO_tup {K : PySem.W.Frag} {p : Addr} {i : Int} {H : Hp} {Q : VK} {xs : List V} : ixO K p i H Q (some (.tup xs)) = ∃ v, atI xs i = some v ∧ Q v H := rfl
theorem ixO_imp {K : PySem.W.Frag} {p : Addr} {i : Int} {H : Hp} {Q : VK} (h : ixO K p i H Q (H p)) : rIxA K (.ref p) (.int i) H Q := by
 unfold ixO at h
 split at h
 ·rename_i xs e; obtain ⟨v, a, b⟩ := h; exact ixA_list (SqL.of e) a b
 ·rename_i xs e; obtain ⟨v, a, b⟩ := h; exact ixA_tup (SqT.of e) a b
 ·exact h
theorem ix_B {X : Cx} (K : PySem.W.Frag) (h : X.K = K) : IxR X (rIxB K) := IxR.imp (ix_K K h) fun x y H Q h => by
 unfold rIxB at h
 split at h
 ·exact ixO_imp h
 ·exact h
theorem atI_n {α : Type} {xs : List α} {i : Nat} {x : α} (h : xs[i]? = some x) : atI xs (i : Int) = some x := by
 have hl : i < xs.length := (List.getElem?_eq_some_iff.mp h).1
 unfold atI ixN
 rw [if_pos (by omega), if_pos (by omega)]
 exact h
theorem atI_0 {α : Type} {a : α} {l : List α} : atI (a :: l) 0 = some a := atI_n (i := 0) rfl
theorem atI_1 {α : Type} {a b : α} {l : List α} : atI (a :: b :: l) 1 = some b := atI_n (i := 1) rfl
theorem atI_2 {α : Type} {a b c : α} {l : List α} : atI (a :: b :: c :: l) 2 = some c := atI_n (i := 2) rfl
theorem atI_3 {α : Type} {a b c d : α} {l : List α} : atI (a :: b :: c :: d :: l) 3 = some d := atI_n (i := 3) rfl
theorem atI_4 {α : Type} {a b c d e : α} {l : List α} : atI (a :: b :: c :: d :: e :: l) 4 = some e := atI_n (i := 4) rfl
theorem atI_5 {α : Type} {a b c d e f : α} {l : List α} : atI (a :: b :: c :: d :: e :: f :: l) 5 = some f := atI_n (i := 5) rfl
noncomputable def gO (K : PySem.W.Frag) (n : Nat) (t : TGs) (a : Addr) (σ : St) (H : Hp) (Q : St → Hp → Prop) : Option HO → Prop
 | some (.tup xs) => xs.length = n ∧ t xs σ H Q
 | _ => ∃ xs, SqT K H a xs ∧ xs.length = n ∧ t xs σ H Q
noncomputable def gTupB (K : PySem.W.Frag) (n : Nat) (t : TGs) : TG := fun v σ H Q => match v with
 | .ref a => gO K n t a σ H Q (H a)
 | _ => False
theorem gTupB_ref {K : PySem.W.Frag} {n : Nat} {t : TGs} {a : Addr} {σ : St} {H : Hp} {Q : St → Hp → Prop} : gTupB K n t (.ref a) σ H Q = gO K n t a σ H Q (H a) := rfl
theorem gO_tup {K : PySem.W.Frag} {n : Nat} {t : TGs} {a : Addr} {σ : St} {H : Hp} {Q : St → Hp → Prop} {xs : List V} : gO K n t a σ H Q (some (.tup xs)) = (xs.length = n ∧ t xs σ H Q) := rfl
theorem pg_tupB {X : Cx} {es : List Expr} {pos : Pos} (K : PySem.W.Frag) {j n : Nat} {u : TGs} (hK : X.K = K) (hc : X.calm = true) (hh : PGs X es u) (hn : es.length = n := by rfl) (h : es.any isStar = false := by rfl) : PG X (.Tuple es j pos) (gTupB K n u) := by
 intro pins s σ H v w Q I r q
 refine pg_tupQ K (j := j) hK hc hh hn h pins s σ H v w Q I r ?_
 unfold gTupB at q
 split at q
 ·rename_i a
  unfold gO at q
  split at q
  ·rename_i xs e; exact ⟨a, xs, rfl, SqT.of e, q⟩
  ·obtain ⟨xs, h1, h2⟩ := q; exact ⟨a, xs, rfl, h1, h2⟩
 ·exact q.elim
noncomputable def lenO (K : PySem.W.Frag) (p : Addr) (H : Hp) (Q : VK) : Option HO → Prop
 | some (.lst xs) => Q (.int xs.length) H
 | some (.tup xs) => Q (.int xs.length) H
 | _ => rLenA K [.ref p] H Q
noncomputable def rLenB (K : PySem.W.Frag) : List V → Hp → VK → Prop := fun xs H Q => match xs with
 | [.ref p] => lenO K p H Q (H p)
 | xs => rLenA K xs H Q
theorem rLenB_ref {K : PySem.W.Frag} {p : Addr} {H : Hp} {Q : VK} : rLenB K [.ref p] H Q = lenO K p H Q (H p) := rfl
theorem rLenB_str {K : PySem.W.Frag} {z : Str} {H : Hp} {Q : VK} : rLenB K [.str z] H Q = rLenA K [.str z] H Q := rfl
theorem lenO_lst {K : PySem.W.Frag} {p : Addr} {H : Hp} {Q : VK} {xs : List V} : lenO K p H Q (some (.lst xs)) = Q (.int xs.length) H := rfl
theorem lenO_tup {K : PySem.W.Frag} {p : Addr} {H : Hp} {Q : VK} {xs : List V} : lenO K p H Q (some (.tup xs)) = Q (.int xs.length) H := rfl
theorem call_lenB {X : Cx} (K : PySem.W.Frag) (h : X.K = K) : CallR X (.builtin "len") (rLenB K) := CallR.imp (call_lenK K h) fun xs H Q h => by
 unfold rLenB at h
 split at h
 ·rename_i p
  unfold lenO at h
  split at h
  ·rename_i xs e; exact ⟨xs, .inl (SqL.of e), h⟩
  ·rename_i xs e; exact ⟨xs, .inr (SqT.of e), h⟩
  ·exact h
 ·exact h
noncomputable def isiO (K : PySem.W.Frag) (p : Addr) (n : String) (H : Hp) (Q : VK) : Option HO → Prop
 | some (.lst _) => if n = "list" then Q (.bl true) H else rIsi K [.ref p, .ty n] H Q
 | some (.tup _) => if n = "tuple" then Q (.bl true) H else rIsi K [.ref p, .ty n] H Q
 | _ => rIsi K [.ref p, .ty n] H Q
noncomputable def rIsiB (K : PySem.W.Frag) : List V → Hp → VK → Prop := fun xs H Q => match xs with
 | [.ref p, .ty n] => isiO K p n H Q (H p)
 | xs => rIsi K xs H Q
theorem call_isiB {X : Cx} (K : PySem.W.Frag) (h : X.K = K) : CallR X (.builtin "isinstance") (rIsiB K) := CallR.imp (call_isiK K h) fun xs H Q h => by
 unfold rIsiB at h
 split at h
 ·rename_i p n
  unfold isiO at h
  split at h
  ·rename_i xs e
   split at h
   ·rename_i c; subst c; exact Com.isi_list e h
   ·exact h
  ·rename_i xs e
   split at h
   ·rename_i c; subst c; exact Com.isi_tup e h
   ·exact h
  ·exact h
 ·exact h
theorem rIsiB_ref {K : PySem.W.Frag} {p : Addr} {n : String} {H : Hp} {Q : VK} : rIsiB K [.ref p, .ty n] H Q = isiO K p n H Q (H p) := rfl
theorem isiO_tup {K : PySem.W.Frag} {p : Addr} {H : Hp} {Q : VK} {xs : List V} : isiO K p "tuple" H Q (some (.tup xs)) = Q (.bl true) H := by simp [isiO]
theorem isiO_lst {K : PySem.W.Frag} {p : Addr} {H : Hp} {Q : VK} {xs : List V} : isiO K p "list" H Q (some (.lst xs)) = Q (.bl true) H := by simp [isiO]
theorem rIsiB_i {K : PySem.W.Frag} {i : Int} {n : String} {H : Hp} {Q : VK} : rIsiB K [.int i, .ty n] H Q = rIsi K [.int i, .ty n] H Q := rfl
theorem rIsiB_b {K : PySem.W.Frag} {i : Bool} {n : String} {H : Hp} {Q : VK} : rIsiB K [.bl i, .ty n] H Q = rIsi K [.bl i, .ty n] H Q := rfl
theorem rIsiB_s {K : PySem.W.Frag} {i : Str} {n : String} {H : Hp} {Q : VK} : rIsiB K [.str i, .ty n] H Q = rIsi K [.str i, .ty n] H Q := rfl
theorem ex_lst {l : List V} {N : List V → Prop} : (∃ xs, some (HO.lst l) = some (HO.lst xs) ∧ N xs) = N l := by
 apply propext; constructor
 ·rintro ⟨xs, e, h⟩; cases e; exact h
 ·exact fun h => ⟨l, rfl, h⟩
theorem ex_lst2 {l : List V} {k : Int} {N : List V → Nat → Prop} : (∃ xs j, some (HO.lst l) = some (HO.lst xs) ∧ ixN xs.length k = some j ∧ N xs j) = ∃ j, ixN l.length k = some j ∧ N l j := by
 apply propext; constructor
 ·rintro ⟨xs, j, e, h⟩; cases e; exact ⟨j, h⟩
 ·rintro ⟨j, h⟩; exact ⟨l, j, rfl, h⟩
noncomputable def But (p : Addr) (H H' : Hp) : Prop := ∀ b o, H b = some o → b ≠ p → H' b = some o
theorem But.refl {p : Addr} {H : Hp} : But p H H := fun _ _ h _ => h
theorem But.upd {p : Addr} {H : Hp} {o : HO} : But p H (upd H p o) := fun b x hb hne => by rw [upd_ne hne]; exact hb
theorem But.new {p q : Addr} {H H' : Hp} {o : HO} (h : But p H H') (hq : H' q = none) : But p H (L2.upd H' q o) := fun b x hb hne => by
 rw [upd_ne (ne_of_none (h b x hb hne) hq)]; exact h b x hb hne
theorem int_inj : ∀ {xs ys : List Int}, xs.map Dt.int = ys.map Dt.int → xs = ys
 | [], [], _ => rfl
 | [], _ :: _, h => by simp at h
 | _ :: _, [], h => by simp at h
 | x :: xs, y :: ys, h => by
  simp only [List.map_cons, List.cons.injEq] at h
  have e : x = y := by have := h.1; cases this; rfl
  rw [e, int_inj h.2]
theorem eqA_lists {K : PySem.W.Frag} {H : Hp} {neg : Bool} {p r : Addr} {xs ys : List Int} {Q : VK} (h1 : SqL K H p (xs.map V.int)) (h2 : SqL K H r (ys.map V.int)) (q : Q (.bl (if neg then !decide (xs = ys) else decide (xs = ys))) H) : rEqA K neg (.ref p) (.ref r) H Q := by
 refine ⟨1, _, _, by decide, den_list h1, den_list h2, ?_⟩
 by_cases e : xs = ys
 ·subst e
  refine .inl ⟨rfl, ?_⟩
  cases neg <;> simpa using q
 ·refine .inr ⟨fun c => e (int_inj (Dt.l.inj c)), ?_⟩
  cases neg <;> simpa [e] using q
end L2
namespace MeterM
noncomputable def mn (a b : Int) : Int := if b < a then b else a
noncomputable def hf (w : Int) : Int := if 1 < w / 2 then w / 2 else 1
noncomputable def k1 (m k : Int) (s : Int × Int) : Int × Int := if s.1 = m then s else if s.1 < k then (s.1 + 1, s.2) else if s.2 + 1 = s.1 then (s.1 + 1, 0) else (s.1, s.2 + 1)
noncomputable def kn (m k : Int) : Nat → Int × Int → Int × Int
 | 0, s => s
 | n + 1, s => k1 m k (kn m k n s)
theorem hf_in {w m : Int} (h1 : 1 ≤ w) (h2 : w ≤ m) : 1 ≤ hf w ∧ hf w ≤ m := by
 unfold hf; split <;> omega
end MeterM
namespace MeterM
noncomputable def Inb (m : Int) (s : Int × Int) : Prop := 1 ≤ s.1 ∧ s.1 ≤ m ∧ 0 ≤ s.2 ∧ s.2 < s.1
theorem inb1 {m k : Int} (s : Int × Int) (h : Inb m s) : Inb m (k1 m k s) := by
 obtain ⟨w, c⟩ := s
 unfold Inb k1 at *
 simp only at *
 (repeat' split) <;> simp only <;> omega
theorem inb {m k : Int} : ∀ (n : Nat) (s : Int × Int), Inb m s → Inb m (kn m k n s)
 | 0, s, h => h
 | n + 1, s, h => inb1 _ (inb n s h)
end MeterM
namespace WaysM
noncomputable def lb (x : Nat) : Nat := x - (x &&& (x - 1))
theorem and_mod (a b : Nat) : (a &&& b) % 2 = (a % 2) * (b % 2) := by
 have e := Nat.and_mod_two_pow (a := a) (b := b) (n := 1)
 simp only [Nat.pow_one] at e
 rw [e]
 rcases (by omega : a % 2 = 0 ∨ a % 2 = 1) with p | p <;> rcases (by omega : b % 2 = 0 ∨ b % 2 = 1) with q | q <;> rw [p, q] <;> decide
theorem or_mod (a b : Nat) (h : (a ||| b) % 2 = 1) : a % 2 = 1 ∨ b % 2 = 1 := by
 have e := Nat.or_mod_two_pow (a := a) (b := b) (n := 1)
 simp only [Nat.pow_one] at e
 rw [e] at h
 rcases (by omega : a % 2 = 0 ∨ a % 2 = 1) with p | p <;> rcases (by omega : b % 2 = 0 ∨ b % 2 = 1) with q | q <;> rw [p, q] at h <;> first | (exact .inl p) | (exact .inr q) | (simp at h)
theorem lb_spec (x : Nat) (h : 0 < x) : ∃ k, lb x = 2 ^ k ∧ x % 2 ^ k = 0 ∧ x / 2 ^ k % 2 = 1 := by
 induction x using Nat.strongRecOn with
 | _ x ih =>
  have d : (x &&& (x - 1)) / 2 = (x / 2) &&& ((x - 1) / 2) := Nat.and_div_two
  have m := and_mod x (x - 1)
  rcases (by omega : x % 2 = 0 ∨ x % 2 = 1) with p | p
  ·obtain ⟨k, h1, h2, h3⟩ := ih (x / 2) (by omega) (by omega)
   rw [show (x - 1) / 2 = x / 2 - 1 by omega] at d
   rw [p] at m
   refine ⟨k + 1, ?_, ?_, ?_⟩
   ·unfold lb at h1 ⊢
    rw [Nat.pow_succ]
    have le : (x / 2 &&& (x / 2 - 1)) ≤ x / 2 := Nat.and_le_left
    omega
   ·rw [Nat.pow_succ, Nat.mul_comm, Nat.mod_mul]
    rw [h2]; omega
   ·rw [Nat.pow_succ, Nat.mul_comm, ← Nat.div_div_eq_div_mul]; exact h3
  ·refine ⟨0, ?_, by omega, by simpa using p⟩
   unfold lb
   rw [show (x - 1) / 2 = x / 2 by omega, Nat.and_self] at d
   rw [p, show (x - 1) % 2 = 0 by omega] at m
   omega
theorem or_div (a b k : Nat) : (a ||| b) / 2 ^ k = a / 2 ^ k ||| b / 2 ^ k := by
 rw [← Nat.shiftRight_eq_div_pow, ← Nat.shiftRight_eq_div_pow, ← Nat.shiftRight_eq_div_pow]
 exact Nat.shiftRight_or_distrib
noncomputable def low (t b : Int) : Int × Int := (t / (lb (t.toNat ||| b.toNat) : Nat), b / (lb (t.toNat ||| b.toNat) : Nat))
structure IsLow (t b t' b' s : Int) : Prop where
 s0 : 0 < s
 tt : t = s * t'
 bb : b = s * b'
 t0 : 0 ≤ t'
 b0 : 0 < b'
 od : ¬ (t' % 2 = 0 ∧ b' % 2 = 0)
 tl : t' ≤ t
 bl : b' ≤ b
theorem nat_low (t b : Nat) (hb : 0 < b) : ∃ k, lb (t ||| b) = 2 ^ k ∧ t % 2 ^ k = 0 ∧ b % 2 ^ k = 0 ∧ (t / 2 ^ k % 2 = 1 ∨ b / 2 ^ k % 2 = 1) := by
 have hx : 0 < t ||| b := by
  have : b ≤ t ||| b := Nat.right_le_or
  omega
 obtain ⟨k, h1, h2, h3⟩ := lb_spec _ hx
 have e : (t % 2 ^ k) ||| (b % 2 ^ k) = 0 := by rw [← Nat.or_mod_two_pow]; exact h2
 have e1 : t % 2 ^ k ≤ (t % 2 ^ k) ||| (b % 2 ^ k) := Nat.left_le_or
 have e2 : b % 2 ^ k ≤ (t % 2 ^ k) ||| (b % 2 ^ k) := Nat.right_le_or
 refine ⟨k, h1, by omega, by omega, ?_⟩
 rw [or_div] at h3
 exact or_mod _ _ h3
theorem low_spec {t b : Int} (ht : 0 ≤ t) (hb : 0 < b) : ∃ s, IsLow t b (low t b).1 (low t b).2 s := by
 obtain ⟨t, rfl⟩ := Int.eq_ofNat_of_zero_le ht
 obtain ⟨b, rfl⟩ := Int.eq_ofNat_of_zero_le (Int.le_of_lt hb)
 obtain ⟨k, h1, h2, h3, h4⟩ := nat_low t b (by omega)
 have hp : 0 < 2 ^ k := Nat.two_pow_pos k
 have t1 := Nat.div_add_mod t (2 ^ k)
 have b1 := Nat.div_add_mod b (2 ^ k)
 rw [h2, Nat.add_zero] at t1
 rw [h3, Nat.add_zero] at b1
 have e1 : (low (t : Int) (b : Int)).1 = ((t / 2 ^ k : Nat) : Int) := by simp [low, h1]
 have e2 : (low (t : Int) (b : Int)).2 = ((b / 2 ^ k : Nat) : Int) := by simp [low, h1]
 rw [e1, e2]
 have l1 := Nat.div_le_self t (2 ^ k)
 have l2 := Nat.div_le_self b (2 ^ k)
 have l3 : 0 < b / 2 ^ k := by
  rcases Nat.eq_zero_or_pos (b / 2 ^ k) with z | z
  ·rw [z, Nat.mul_zero] at b1; omega
  ·exact z
 generalize t / 2 ^ k = t' at *
 generalize b / 2 ^ k = b' at *
 generalize 2 ^ k = s at *
 refine ⟨(s : Int), ⟨by omega, ?_, ?_, by omega, by omega, by omega, by omega, by omega⟩⟩
 ·rw [← Int.natCast_mul, t1]
 ·rw [← Int.natCast_mul, b1]
theorem pow_part : ∀ (n : Nat) (s b : Int), 0 < s → 0 < b → 2 ^ n = s * b → ∃ j, j ≤ n ∧ b = 2 ^ j
 | 0, s, b, hs, hb, h => ⟨0, Nat.le_refl _, by
   have h1 : s * b = 1 := by simpa using h.symm
   have : b ∣ 1 := ⟨s, by rw [Int.mul_comm]; exact h1.symm⟩
   have := Int.le_of_dvd (by decide) this
   simp; omega⟩
 | n + 1, s, b, hs, hb, h => by
  by_cases hb2 : b % 2 = 0
  ·obtain ⟨c, rfl⟩ : ∃ c, b = 2 * c := ⟨b / 2, by omega⟩
   have : (2 : Int) ^ n = s * c := by
    have e : (2 : Int) * 2 ^ n = 2 * (s * c) := by rw [← Int.mul_left_comm, ← h, Int.pow_succ, Int.mul_comm]
    omega
   obtain ⟨j, hj, e⟩ := pow_part n s c hs (by omega) this
   exact ⟨j + 1, by omega, by rw [e, Int.pow_succ, Int.mul_comm]⟩
  ·by_cases hs2 : s % 2 = 0
   ·obtain ⟨c, rfl⟩ : ∃ c, s = 2 * c := ⟨s / 2, by omega⟩
    have : (2 : Int) ^ n = c * b := by
     have e : (2 : Int) * 2 ^ n = 2 * (c * b) := by rw [← Int.mul_assoc, ← h, Int.pow_succ, Int.mul_comm]
     omega
    obtain ⟨j, hj, e⟩ := pow_part n c b (by omega) hb this
    exact ⟨j, by omega, e⟩
   ·exfalso
    have e1 : (s * b) % 2 = 1 := by rw [Int.mul_emod]; rw [show s % 2 = 1 by omega, show b % 2 = 1 by omega]; decide
    have e2 : (2 : Int) ^ (n + 1) % 2 = 0 := by rw [Int.pow_succ]; exact Int.mul_emod_left _ _
    rw [← h] at e1
    omega
end WaysM
set_option maxRecDepth 100000
namespace L2
open PySem PySem.Spec PyProof.Rows
noncomputable def Bd (n : Nat) (x : Int) : Prop := x.natAbs < 2 ^ n
theorem Bd.mul {a b : Nat} {x y : Int} (h : Bd a x) (h' : Bd b y) : Bd (a + b) (x * y) := by
 unfold Bd at *
 rw [Int.natAbs_mul, Nat.pow_add]
 exact Nat.mul_lt_mul'' h h'
theorem Bd.up {a b : Nat} {x : Int} (h : Bd a x) (hab : a ≤ b) : Bd b x := Nat.lt_of_lt_of_le h (Nat.pow_le_pow_right (by decide) hab)
theorem Bd.add {a : Nat} {x y : Int} (h : Bd a x) (h' : Bd a y) : Bd (a + 1) (x + y) := by
 unfold Bd at *
 have := Int.natAbs_add_le x y
 rw [Nat.pow_succ]; omega
theorem Bd.sub {a : Nat} {x y : Int} (h : Bd a x) (h' : Bd a y) : Bd (a + 1) (x - y) := by
 unfold Bd at *
 have : (x - y).natAbs ≤ x.natAbs + y.natAbs := by omega
 rw [Nat.pow_succ]; omega
theorem Bd.of {a : Nat} {x : Int} (h0 : 0 ≤ x) (h : x < 2 ^ a) : Bd a x := by
 unfold Bd
 have e : ((2 ^ a : Nat) : Int) = 2 ^ a := by simp
 omega
theorem Bd.le {a : Nat} {x y : Int} (h : Bd a y) (h0 : 0 ≤ x) (hl : x ≤ y) : Bd a x := by
 unfold Bd at *; omega
theorem Bd.bits {n : Nat} {x : Int} (h : Bd n x) : Builtin.Int.intBits x ≤ n := by
 unfold Builtin.Int.intBits
 split
 ·omega
 ·rename_i c
  have hx : x.natAbs ≠ 0 := by simpa using c
  have := (Nat.log2_lt hx).mpr h
  omega
noncomputable def CMulW (i j : Int) : Prop := CMul i j ∨ (Bd 8000 i ∧ Bd 8000 j)
noncomputable def CDivW (_ j : Int) : Prop := 0 < j ∧ Bd 8000 j
theorem op_mulW {X : Cx} : OpR X (binaryOp .Mult) (rI CMulW fun i j => .int (i * j)) := opI fun _ _ _ _ _ _ _ hc q => mul_int q (by
 rcases hc with hc | ⟨h1, h2⟩
 ·exact hc.ok
 ·exact IntMulOk.of_bits (Nat.le_trans h1.bits (by decide)) (Nat.le_trans h2.bits (by decide)))
theorem op_fdivW {X : Cx} : OpR X (binaryOp .FloorDiv) (rI CDivW fun i j => .int (i / j)) := opI fun i j _ _ _ _ _ hc q => by
 have e : i.fdiv j = i / j := Int.fdiv_eq_ediv_of_nonneg i (Int.le_of_lt hc.1)
 rw [← e] at q
 refine floordiv_int (Int.ne_of_gt hc.1) q (.inl (PyProof.noPylong_of_log2 ?_))
 have hx : j.natAbs ≠ 0 := by have := hc.1; omega
 exact Nat.lt_of_lt_of_le ((Nat.log2_lt hx).mpr hc.2) (by decide)
theorem mulW_l {i j : Int} (h : -(2 ^ 64) < i ∧ i < 2 ^ 64) : CMulW i j := .inl (.inl h)
theorem divW_s {i j : Int} (h0 : 0 < j) (h : j < 1073741824) : CDivW i j := ⟨h0, Bd.up (a := 30) (Bd.of (Int.le_of_lt h0) h) (by decide)⟩
theorem mulW_B {i j : Int} {a b : Nat} (h : Bd a i) (h' : Bd b j) (ha : a ≤ 8000) (hb : b ≤ 8000) : CMulW i j := .inr ⟨h.up ha, h'.up hb⟩
theorem divW_B {i j : Int} {a : Nat} (h0 : 0 < j) (h : Bd a j) (ha : a ≤ 8000) : CDivW i j := ⟨h0, h.up ha⟩
end L2
namespace L2
theorem absE (x : Int) : (if x < 0 then -x else x) = (x.natAbs : Int) := by split <;> omega
theorem Bd.abs {n : Nat} {x : Int} (h : Bd n x) : Bd n (x.natAbs : Int) := by unfold Bd at *; simpa using h
theorem Bd.c {n k : Nat} (h : k < 2 ^ n) : Bd n (k : Int) := by unfold Bd; simpa using h
end L2
namespace WaysI
open PySem L2
theorem lowbit {t b : Int} (ht : 0 ≤ t) (hb : 0 < b) : Builtin.bitAnd (Builtin.bitOr t b) (-(Builtin.bitOr t b)) = (WaysM.lb (t.toNat ||| b.toNat) : Nat) := by
 obtain ⟨t, rfl⟩ := Int.eq_ofNat_of_zero_le ht
 obtain ⟨b, rfl⟩ := Int.eq_ofNat_of_zero_le (Int.le_of_lt hb)
 rw [BitI.or_nat]
 have hx : 0 < t ||| b := by
  have : b ≤ t ||| b := Nat.right_le_or
  omega
 rw [PyProof.Rows.bitAnd_pn (by omega) (by omega)]
 have e : (Builtin.bitNot (-((t ||| b : Nat) : Int))).toNat = (t ||| b) - 1 := by rw [BitI.not_eq]; omega
 rw [e]
 simp only [Int.toNat_natCast, WaysM.lb]
 have le : ((t ||| b) &&& ((t ||| b) - 1)) ≤ t ||| b := Nat.and_le_left
 omega
theorem lb_pos {t b : Int} (ht : 0 ≤ t) (hb : 0 < b) : 0 < ((WaysM.lb (t.toNat ||| b.toNat) : Nat) : Int) ∧ ((WaysM.lb (t.toNat ||| b.toNat) : Nat) : Int) ≤ b := by
 obtain ⟨t, rfl⟩ := Int.eq_ofNat_of_zero_le ht
 obtain ⟨b, rfl⟩ := Int.eq_ofNat_of_zero_le (Int.le_of_lt hb)
 obtain ⟨k, h1, h2, h3, h4⟩ := WaysM.nat_low t b (by omega)
 simp only [Int.toNat_natCast]
 rw [h1]
 have hp : 0 < 2 ^ k := Nat.two_pow_pos k
 have := Nat.le_of_dvd (by omega) (Nat.dvd_of_mod_eq_zero h3)
 omega
end WaysI
set_option maxRecDepth 100000
namespace L2
open PySem PySem.Spec PyProof.Rows
noncomputable def swO (i j : Nat) (D : Ends) (σ : St) (H : Hp) : Option HO → Prop
 | some (.tup [a, b]) => D.nx ((σ.set j (some b)).set i (some a)) H
 | _ => False
noncomputable def swV (i j : Nat) (D : Ends) (σ : St) (v : V) (H : Hp) : Prop := match v with
 | .ref p => swO i j D σ H (H p)
 | _ => False
noncomputable def tSw (i j : Nat) (te : TE) : TS := fun D σ H => te σ H fun v H1 => swV i j D σ v H1
theorem swV_ref {i j : Nat} {D : Ends} {σ : St} {p : Addr} {H : Hp} : swV i j D σ (.ref p) H = swO i j D σ H (H p) := rfl
theorem swO_tup {i j : Nat} {D : Ends} {σ : St} {H : Hp} {a b : V} : swO i j D σ H (some (.tup [a, b])) = D.nx ((σ.set j (some b)).set i (some a)) H := rfl
end L2
set_option maxRecDepth 100000
namespace L2
open PySem PySem.Spec PyProof.Rows
noncomputable def rMinB (K : PySem.W.Frag) : List V → Hp → VK → Prop := fun xs H Q => match xs with
 | [.int i, .int j] => Q (.int (if j < i then j else i)) H
 | [.ref p] => ∃ ns : List Int, SqL K H p (ns.map V.int) ∧ 0 < ns.length ∧ ∀ M, M ∈ ns → (∀ a, a ∈ ns → M ≤ a) → Q (.int M) H
 | _ => False
noncomputable def rMaxB (K : PySem.W.Frag) : List V → Hp → VK → Prop := fun xs H Q => match xs with
 | [.int i, .int j] => Q (.int (if i < j then j else i)) H
 | [.ref p] => ∃ ns : List Int, SqL K H p (ns.map V.int) ∧ 0 < ns.length ∧ ∀ M, M ∈ ns → (∀ a, a ∈ ns → a ≤ M) → Q (.int M) H
 | _ => False
theorem rMinB_ref {K : PySem.W.Frag} {p : Addr} {H : Hp} {Q : VK} : rMinB K [.ref p] H Q = ∃ ns : List Int, SqL K H p (ns.map V.int) ∧ 0 < ns.length ∧ ∀ M, M ∈ ns → (∀ a, a ∈ ns → M ≤ a) → Q (.int M) H := rfl
theorem rMaxB_ref {K : PySem.W.Frag} {p : Addr} {H : Hp} {Q : VK} : rMaxB K [.ref p] H Q = ∃ ns : List Int, SqL K H p (ns.map V.int) ∧ 0 < ns.length ∧ ∀ M, M ∈ ns → (∀ a, a ∈ ns → a ≤ M) → Q (.int M) H := rfl
end L2
set_option maxRecDepth 100000
namespace L2
open PySem PySem.Spec PyProof.Rows
noncomputable abbrev ik (i : Int) : Key := Sum.inl i
noncomputable def dinO (neg : Bool) (i : Int) (H : Hp) (Q : VK) : Option HO → Prop
 | some (.dK kvs) => Q (.bl (if neg then !(valV kvs (ik i)).isSome else (valV kvs (ik i)).isSome)) H
 | _ => False
noncomputable def rDIn (neg : Bool) : R2 := fun y x H Q => match y, x with
 | .int i, .ref a => dinO neg i H Q (H a)
 | _, _ => False
theorem rDIn_ref {neg : Bool} {i : Int} {a : Addr} {H : Hp} {Q : VK} : rDIn neg (.int i) (.ref a) H Q = dinO neg i H Q (H a) := rfl
theorem dinO_t {i : Int} {H : Hp} {Q : VK} {kvs : List (Key × V)} : dinO true i H Q (some (.dK kvs)) = Q (.bl (!(valV kvs (ik i)).isSome)) H := rfl
theorem dinO_f {i : Int} {H : Hp} {Q : VK} {kvs : List (Key × V)} : dinO false i H Q (some (.dK kvs)) = Q (.bl (valV kvs (ik i)).isSome) H := rfl
noncomputable def dgO (i : Int) (H : Hp) (Q : VK) : Option HO → Prop
 | some (.dK kvs) => ∃ v, valV kvs (ik i) = some v ∧ Q v H
 | _ => False
noncomputable def rDGet : R2 := fun x y H Q => match x, y with
 | .ref a, .int i => dgO i H Q (H a)
 | _, _ => False
theorem rDGet_ref {i : Int} {a : Addr} {H : Hp} {Q : VK} : rDGet (.ref a) (.int i) H Q = dgO i H Q (H a) := rfl
theorem dgO_k {i : Int} {H : Hp} {Q : VK} {kvs : List (Key × V)} : dgO i H Q (some (.dK kvs)) = ∃ v, valV kvs (ik i) = some v ∧ Q v H := rfl
noncomputable def dpO (a : Addr) (i : Int) (v : V) (H : Hp) (N : Hp → Prop) : Option HO → Prop
 | some (.dK kvs) => kvs.length < sizeLine ∧ N (upd H a (.dK (putK kvs (ik i) v)))
 | _ => False
noncomputable def rDPut (x y v : V) (H : Hp) (N : Hp → Prop) : Prop := match x, y with
 | .ref a, .int i => dpO a i v H N (H a)
 | _, _ => False
noncomputable def sDPutI (to ti tv : TE) : TS := fun D σ H => tv σ H fun v H1 => to σ H1 fun x H2 => ti σ H2 fun y H3 => rDPut x y v H3 (D.nx σ)
theorem rDPut_ref {i : Int} {a : Addr} {v : V} {H : Hp} {N : Hp → Prop} : rDPut (.ref a) (.int i) v H N = dpO a i v H N (H a) := rfl
theorem dpO_k {a : Addr} {i : Int} {v : V} {H : Hp} {N : Hp → Prop} {kvs : List (Key × V)} : dpO a i v H N (some (.dK kvs)) = (kvs.length < sizeLine ∧ N (upd H a (.dK (putK kvs (ik i) v)))) := rfl
noncomputable def isDO : Option HO → Prop
 | some (.dK _) => True
 | _ => False
noncomputable def dopO (a : Addr) (i : Int) (H : Hp) (Q : VK) : Option HO → Prop
 | some (.dK kvs) => ∃ v, valV kvs (ik i) = some v ∧ Q v (upd H a (.dK (dropK kvs (ik i))))
 | _ => False
noncomputable def rDPop (x y : V) (H : Hp) (Q : VK) : Prop := match x, y with
 | .ref a, .int i => dopO a i H Q (H a)
 | _, _ => False
noncomputable def rIsD (x : V) (H : Hp) : Prop := match x with
 | .ref a => isDO (H a)
 | _ => False
noncomputable def tDPopI (to ti : TE) : TE := fun σ H Q => to σ H fun x H1 => rIsD x H1 ∧ ti σ H1 fun y H2 => rDPop x y H2 Q
theorem rIsD_ref {a : Addr} {H : Hp} : rIsD (.ref a) H = isDO (H a) := rfl
theorem isDO_k {kvs : List (Key × V)} : isDO (some (.dK kvs)) = True := rfl
theorem rDPop_ref {i : Int} {a : Addr} {H : Hp} {Q : VK} : rDPop (.ref a) (.int i) H Q = dopO a i H Q (H a) := rfl
theorem dopO_k {a : Addr} {i : Int} {H : Hp} {Q : VK} {kvs : List (Key × V)} : dopO a i H Q (some (.dK kvs)) = ∃ v, valV kvs (ik i) = some v ∧ Q v (upd H a (.dK (dropK kvs (ik i)))) := rfl
section
variable {X : Cx} {i o e value : Expr} {ti to te tv : TE} {pos pos' apos cpos : Pos}
theorem din_split {neg : Bool} {y x : V} {H : Hp} {Q : VK} (q : rDIn neg y x H Q) : ∃ j a kvs, y = .int j ∧ x = .ref a ∧ H a = some (.dK kvs) ∧ Q (.bl (if neg then !(valV kvs (ik j)).isSome else (valV kvs (ik j)).isSome)) H := by
 unfold rDIn at q
 split at q
 ·rename_i j a
  unfold dinO at q
  split at q
  ·rename_i kvs e1; exact ⟨j, a, kvs, rfl, rfl, e1, q⟩
  ·exact q.elim
 ·exact q.elim
theorem pc_dI (hu : X.A.units + 64 < cLine) (hi : PE X i ti) (ho : PE X o to) : PC X .In i o (tOp (rDIn false) ti to) := by
 intro pins s σ H Q I h
 have hu' : X.A.units + 1 < cLine := by omega
 refine thn (hi pins s σ H _ I h) fun iv s1 ⟨y, H1, I1, ry, q1⟩ => thn (ho pins s1 σ H1 _ I1 q1) fun u s2 ⟨x, H2, I2, rx, q2⟩ => ?_
 obtain ⟨j, a, kvs, rfl, rfl, e1, q⟩ := din_split q2
 obtain rfl : u = Value.ref a := rx
 exact d_in hu' I2 (DGet.k (k := ik j) e1) ry fun s' I' => ⟨.bl _, H2, I', rfl, q⟩
theorem pc_dNI (hu : X.A.units + 64 < cLine) (hi : PE X i ti) (ho : PE X o to) : PC X .NotIn i o (tOp (rDIn true) ti to) := by
 intro pins s σ H Q I h
 have hu' : X.A.units + 1 < cLine := by omega
 refine thn (hi pins s σ H _ I h) fun iv s1 ⟨y, H1, I1, ry, q1⟩ => thn (ho pins s1 σ H1 _ I1 q1) fun u s2 ⟨x, H2, I2, rx, q2⟩ => ?_
 obtain ⟨j, a, kvs, rfl, rfl, e1, q⟩ := din_split q2
 obtain rfl : u = Value.ref a := rx
 exact d_notIn hu' I2 (DGet.k (k := ik j) e1) ry fun s' I' => ⟨.bl _, H2, I', rfl, q⟩
theorem dg_split {x y : V} {H : Hp} {Q : VK} (q : rDGet x y H Q) : ∃ j a kvs v, y = .int j ∧ x = .ref a ∧ H a = some (.dK kvs) ∧ valV kvs (ik j) = some v ∧ Q v H := by
 unfold rDGet at q
 split at q
 ·rename_i a j
  unfold dgO at q
  split at q
  ·rename_i kvs e1; obtain ⟨v, h1, h2⟩ := q; exact ⟨j, a, kvs, v, rfl, rfl, e1, h1, h2⟩
  ·exact q.elim
 ·exact q.elim
theorem pe_dgI (hu : X.A.units + 64 < cLine) (ho : PE X o to) (hi : PE X i ti) (hs : NoSl i) : PE X (.Subscript o i pos) (tOp rDGet to ti) := by
 intro pins s σ H Q I h
 have hu' : X.A.units + 1 < cLine := by omega
 refine subD_of PySem.F.slot_dict_getitem.lookup hs (thn (ho pins s σ H _ I h) fun u s1 ⟨x, H1, I1, rx, q1⟩ => thn (hi pins s1 σ H1 _ I1 q1) fun iv s2 ⟨y, H2, I2, ry, q2⟩ => ?_)
 obtain ⟨j, a, kvs, v, rfl, rfl, e1, e2, q⟩ := dg_split q2
 obtain rfl : u = Value.ref a := rx
 have g : DGet H2 a (.int j) (some v) := e2 ▸ DGet.k (k := ik j) e1
 exact ⟨dict_typeIs I2 g, d_getItem hu' I2 g ry fun w' s3 I3 rw' => ⟨v, H2, I3, rw', q⟩⟩
theorem dp_split {x y v : V} {H : Hp} {N : Hp → Prop} (q : rDPut x y v H N) : ∃ j a kvs, y = .int j ∧ x = .ref a ∧ H a = some (.dK kvs) ∧ kvs.length < sizeLine ∧ N (upd H a (.dK (putK kvs (ik j) v))) := by
 unfold rDPut at q
 split at q
 ·rename_i a j
  unfold dpO at q
  split at q
  ·rename_i kvs e1; exact ⟨j, a, kvs, rfl, rfl, e1, q⟩
  ·exact q.elim
 ·exact q.elim
theorem ps_dpI (hu : X.A.units + 64 < cLine) (ho : PE X o to) (hi : PE X i ti) (hv : PE X value tv) (hs : isComp value = false := by rfl) : PS X (.Assign [.Subscript o i pos'] value pos) (sDPutI to ti tv) := by
 intro pins s σ H D I h
 have hu' : X.A.units + 1 < cLine := by omega
 refine wpAny_Assign_Subscript (thn (hv pins s σ H _ I h) fun r s1 ⟨v, H1, I1, rv, q1⟩ => thn (ho pins s1 σ H1 _ I1 q1) fun u s2 ⟨x, H2, I2, rx, q2⟩ => thn (hi pins s2 σ H2 _ I2 q2) fun iv s3 ⟨y, H3, I3, ry, q3⟩ => ?_) (swaps_of hs)
 obtain ⟨j, a, kvs, rfl, rfl, e1, hl, q⟩ := dp_split q3
 obtain rfl : u = Value.ref a := rx
 exact d_setItem hu' I3 (DPut.k (k := ik j) e1 hl) ry rv fun s4 I4 => ⟨σ, _, I4, q⟩
theorem dop_split {x y : V} {H : Hp} {Q : VK} (q : rDPop x y H Q) : ∃ j a kvs v, y = .int j ∧ x = .ref a ∧ H a = some (.dK kvs) ∧ valV kvs (ik j) = some v ∧ Q v (upd H a (.dK (dropK kvs (ik j)))) := by
 unfold rDPop at q
 split at q
 ·rename_i a j
  unfold dopO at q
  split at q
  ·rename_i kvs e1; obtain ⟨v, h1, h2⟩ := q; exact ⟨j, a, kvs, v, rfl, rfl, e1, h1, h2⟩
  ·exact q.elim
 ·exact q.elim
theorem pe_dopI (ho : PE X o to) (he : PE X e te) (hb : attributeBase o "pop" X.env (eval o X.env) = eval o X.env := by rfl)
  (hfew : ((backTo cpos (starEach [e] X.env)).all (fun x => !x.1) && (backToKw cpos (keywordEach [] X.env)).all (fun x => x.1.isSome)
   && decide (([e] : List Expr).length + ([] : List Keyword).length + (if ([] : List Keyword).isEmpty then 0 else 1) < 30)) = true := by rfl)
  (hline : (apos.endLine == cpos.line) = true := by rfl) (ht : backTo cpos (starEach [e] X.env) = [(false, eval e X.env)] := by rfl) : PE X (.Call (.Attribute o "pop" apos) [e] [] cpos) (tDPopI to te) := by
 intro pins s σ H Q I h
 refine wpAny_Call_method hb hfew hline PySem.F.plainAttrs_dict PySem.F.slot_dict_pop PySem.F.type_dict_pop (thn (ho pins s σ H _ I h) fun u s1 ⟨x, H1, I1, rx, hd, q1⟩ => ?_)
 obtain ⟨a, kvs, rfl, e0⟩ : ∃ a kvs, x = .ref a ∧ H1 a = some (.dK kvs) := by
  unfold rIsD at hd
  split at hd
  ·rename_i a
   unfold isDO at hd
   split at hd
   ·rename_i kvs e; exact ⟨a, kvs, rfl, e⟩
   ·exact hd.elim
  ·exact hd.elim
 obtain rfl : u = Value.ref a := rx
 obtain ⟨t1, t2, _⟩ := isD_at I1 (.inl ⟨kvs, .inl e0⟩)
 refine ⟨t1, t2, ?_⟩
 rw [ht]
 refine Calls.callWith_builtin rfl (Calls.evalArgs_plain (Calls.spliced_cons (thn (he pins s1 σ H1 _ I1 q1) fun iv s2 ⟨y, H2, I2, ry, q2⟩ => Calls.spliced_nil ?_)))
 obtain ⟨j, a', kvs', v, rfl, ea, e1, e2, q⟩ := dop_split q2
 cases ea
 exact d_pop I2 e1 (k := ik j) ry e2 (.inl rfl) fun w' s3 I3 rw' => ⟨v, _, I3, rw', q⟩
end
end L2
set_option maxRecDepth 100000
namespace L2
open PySem PySem.Spec PyProof.Rows
noncomputable def lenD (K : PySem.W.Frag) (p : Addr) (H : Hp) (Q : VK) : Option HO → Prop
 | some (.dK kvs) => Q (.int kvs.length) H
 | _ => rLenB K [.ref p] H Q
noncomputable def rLenC (K : PySem.W.Frag) : List V → Hp → VK → Prop := fun xs H Q => match xs with
 | [.ref p] => lenD K p H Q (H p)
 | xs => rLenB K xs H Q
theorem rLenC_ref {K : PySem.W.Frag} {p : Addr} {H : Hp} {Q : VK} : rLenC K [.ref p] H Q = lenD K p H Q (H p) := rfl
theorem lenD_k {K : PySem.W.Frag} {p : Addr} {H : Hp} {Q : VK} {kvs : List (Key × V)} : lenD K p H Q (some (.dK kvs)) = Q (.int kvs.length) H := rfl
theorem den_same {K : PySem.W.Frag} {H : Hp} {n : Nat} : ∀ {xs : List V}, (∀ v ∈ xs, ∃ d, Den K H n v d) → ∃ ds, Paired (Den K H n) xs ds
 | [], _ => ⟨[], .nil⟩
 | x :: xs, h => by
  obtain ⟨d, hd⟩ := h x (by simp)
  obtain ⟨ds, hs⟩ := den_same (xs := xs) fun v hv => h v (by simp [hv])
  exact ⟨d :: ds, .cons hd hs⟩
theorem eqA_same {K : PySem.W.Frag} {H : Hp} {n : Nat} (hn : n < 60) {neg : Bool} {p r : Addr} {xs : List V} {Q : VK} (h1 : SqL K H p xs) (h2 : SqL K H r xs) (hd : ∀ v ∈ xs, ∃ d, Den K H n v d) (q : Q (.bl (!neg)) H) : rEqA K neg (.ref p) (.ref r) H Q := by
 obtain ⟨ds, hs⟩ := den_same hd
 exact ⟨n + 1, .l ds, .l ds, by omega, .inr (.inl ⟨p, _, _, rfl, rfl, h1, hs⟩), .inr (.inl ⟨r, _, _, rfl, rfl, h2, hs⟩), .inl ⟨rfl, q⟩⟩
end L2
set_option maxRecDepth 100000
namespace L2
open PySem PySem.Spec PyProof.Rows
noncomputable def rRngV (vs : List V) (H : Hp) (Q : VK) : Prop := match vs with
 | [.int i, .int j] => (-(2 ^ 62) ≤ i ∧ i < 2 ^ 62 ∧ -(2 ^ 62) ≤ j ∧ j < 2 ^ 62) ∧ ∀ p, H p = none → Q (.ref p) (upd H p (.rng i j))
 | _ => False
noncomputable def tRngV (ta : TA) : TE := fun σ H Q => ta σ H fun vs H1 => rRngV vs H1 Q
theorem rRngV_int {i j : Int} {H : Hp} {Q : VK} : rRngV [.int i, .int j] H Q = ((-(2 ^ 62) ≤ i ∧ i < 2 ^ 62 ∧ -(2 ^ 62) ≤ j ∧ j < 2 ^ 62) ∧ ∀ p, H p = none → Q (.ref p) (upd H p (.rng i j))) := rfl
theorem pe_rngV {X : Cx} {a b : Expr} {ta : TA} {p pos : Pos} (hg : Gl X "range") (hm : X.mg "range" = none) (ha : PA X [a, b] ta) (hs : starEach [a, b] X.env = [(false, eval a X.env), (false, eval b X.env)] := by rfl) (hs2 : starEach [b] X.env = [(false, eval b X.env)] := by rfl) :
  PE X (.Call (.Name "range" p) [a, b] [] pos) (tRngV ta) := by
 intro pins s σ H Q I h
 refine Call_ (ld_blt I hg hm boot_range (PyProof.Rows.callWith_type1 (thn (ha pos pins s σ H _ I h) fun us s1 ⟨vs, H1, I1, r1, q1⟩ => ?_) (by rw [hs, hs2]) (by rw [hs2]; rfl)))
 replace q1 : rRngV vs H1 Q := q1
 unfold rRngV at q1
 split at q1
 ·rename_i i j
  obtain ⟨u1, u2, rfl, ⟨t, rfl⟩, ⟨t', rfl⟩⟩ := vals2 r1
  refine call_range_2 ?_
  exact ⟨.ref s1.heap.objs.size, _, I1.laid (o := .rng i j) (fun b u e => Heap.get?_push_of_some _ e) (Nat.le_refl _) (show ObjOk X.prog X.w _ _ _ (.rng i j) from ⟨_, _, _, Heap.get?_push_size _ rfl⟩), rfl, q1.2 _ (I1.hok.fresh (Nat.le_refl _))⟩
 ·exact q1.elim
noncomputable def listO (K : PySem.W.Frag) (p : Addr) (H : Hp) (Q : VK) : Option HO → Prop
 | some (.rng i j) => (-(2 ^ 62) ≤ i ∧ i < 2 ^ 62 ∧ -(2 ^ 62) ≤ j ∧ j < 2 ^ 62) ∧ (j - i).toNat ≤ 1000000 ∧ ∀ l, H l = none → Q (.ref l) (upd H l (.lst (rngV i (j - i).toNat)))
 | _ => rListA K [.ref p] H Q
noncomputable def rListB (K : PySem.W.Frag) : List V → Hp → VK → Prop := fun xs H Q => match xs with
 | [.ref p] => listO K p H Q (H p)
 | xs => rListA K xs H Q
theorem rListB_ref {K : PySem.W.Frag} {p : Addr} {H : Hp} {Q : VK} : rListB K [.ref p] H Q = listO K p H Q (H p) := rfl
theorem listO_rng {K : PySem.W.Frag} {p : Addr} {H : Hp} {Q : VK} {i j : Int} : listO K p H Q (some (.rng i j)) = ((-(2 ^ 62) ≤ i ∧ i < 2 ^ 62 ∧ -(2 ^ 62) ≤ j ∧ j < 2 ^ 62) ∧ (j - i).toNat ≤ 1000000 ∧ ∀ l, H l = none → Q (.ref l) (upd H l (.lst (rngV i (j - i).toNat)))) := rfl
theorem vals_ix : ∀ {xs : List V} {us : List Value}, xs.length = us.length → (∀ (k : Nat) x u, xs[k]? = some x → us[k]? = some u → RelV x u) → Vals xs us
 | [], [], _, _ => .nil
 | [], _ :: _, h, _ => by simp at h
 | _ :: _, [], h, _ => by simp at h
 | x :: xs, u :: us, h, hr => .cons (hr 0 x u rfl rfl) (vals_ix (by simpa using h) fun k a b ha hb => hr (k + 1) a b (by simpa using ha) (by simpa using hb))
theorem items_vals {i : Int} {n : Nat} {acc : Array Value} (h : ItemsOf (fun k v => ∃ t, v = .int (i + k * 1) t) acc n) : Vals (rngV i n) acc.toList := by
 refine vals_ix (by simp [rngV, h.1]) fun k x u hx hu => ?_
 have hk : k < n := by
  have := (List.getElem?_eq_some_iff.mp hx).1
  simpa [rngV] using this
 obtain ⟨t, rfl⟩ := h.2 k u (by simpa using hu)
 have : x = .int (i + (k : Int)) := by
  unfold rngV at hx
  rw [List.getElem?_map, List.getElem?_range hk] at hx
  exact (Option.some.inj hx).symm
 rw [this]
 exact ⟨t, by rw [Int.mul_one]⟩
theorem call_listB {X : Cx} (K : PySem.W.Frag) (hK : X.K = K) (hc : X.calm = true) : CallR X (.type "list") (rListB K) := by
 intro pins s σ H xs us Q I rs q
 unfold rListB at q
 split at q
 ·rename_i p
  unfold listO at q
  split at q
  ·rename_i i j e
   obtain ⟨u, rfl, ru⟩ := vals1 rs
   cases ru
   obtain ⟨⟨b1, b2, b3, b4⟩, hn, q⟩ := q
   obtain ⟨t, u, v, hr⟩ := (show ObjOk X.prog X.w H s.heap p (.rng i j) from I.hok p _ e)
   refine call_list_range (n := (j - i).toNat) (I.ok.hd hc) hr (small_one b1 b2 b3 b4) (by rw [rangeSize_one]; split <;> omega) (by omega) fun h' tk acc' c' kp e1 it => ?_
   have rv := items_vals it
   exact ⟨.ref s.heap.objs.size, _, I.laid (t' := tk) kp (Nat.le_refl _) (show ObjOk X.prog X.w _ h' _ (.lst (rngV i (j - i).toNat)) from ⟨by rw [sizeLine_eq]; simp [rngV]; omega, acc'.toList, c', rv, by simpa using e1⟩), rfl, q _ (I.hok.fresh (Nat.le_refl _))⟩
  ·exact call_listK K hK pins s σ H _ us Q I rs q
 ·exact call_listK K hK pins s σ H _ us Q I rs q
end L2
set_option maxRecDepth 100000
namespace L2
open PySem PySem.Spec PyProof.Rows
section
variable {X : Cx} {K : PySem.W.Frag}
end
end L2
set_option maxRecDepth 100000
namespace L2
open PySem PySem.Spec PyProof.Rows
section
variable {X : Cx} {a b c d : Expr} {ta tb tc td : TE} {pos : Pos}
end
end L2
set_option maxRecDepth 100000
namespace L2
open PySem PySem.Spec PyProof.Rows
noncomputable abbrev sk (s : Str) : Key := Sum.inr s
noncomputable def sgO (z : Str) (H : Hp) (Q : VK) : Option HO → Prop
 | some (.dK kvs) => ∃ v, valV kvs (sk z) = some v ∧ Q v H
 | _ => False
noncomputable def rSGet : R2 := fun x y H Q => match x, y with
 | .ref a, .str z => sgO z H Q (H a)
 | _, _ => False
theorem rSGet_ref {z : Str} {a : Addr} {H : Hp} {Q : VK} : rSGet (.ref a) (.str z) H Q = sgO z H Q (H a) := rfl
theorem sgO_k {z : Str} {H : Hp} {Q : VK} {kvs : List (Key × V)} : sgO z H Q (some (.dK kvs)) = ∃ v, valV kvs (sk z) = some v ∧ Q v H := rfl
noncomputable def spO (a : Addr) (z : Str) (v : V) (H : Hp) (N : Hp → Prop) : Option HO → Prop
 | some (.dK kvs) => kvs.length < sizeLine ∧ N (upd H a (.dK (putK kvs (sk z) v)))
 | _ => False
noncomputable def rSPut (x y v : V) (H : Hp) (N : Hp → Prop) : Prop := match x, y with
 | .ref a, .str z => spO a z v H N (H a)
 | _, _ => False
noncomputable def sDPutS (to ti tv : TE) : TS := fun D σ H => tv σ H fun v H1 => to σ H1 fun x H2 => ti σ H2 fun y H3 => rSPut x y v H3 (D.nx σ)
theorem rSPut_ref {z : Str} {a : Addr} {v : V} {H : Hp} {N : Hp → Prop} : rSPut (.ref a) (.str z) v H N = spO a z v H N (H a) := rfl
theorem spO_k {a : Addr} {z : Str} {v : V} {H : Hp} {N : Hp → Prop} {kvs : List (Key × V)} : spO a z v H N (some (.dK kvs)) = (kvs.length < sizeLine ∧ N (upd H a (.dK (putK kvs (sk z) v)))) := rfl
section
variable {X : Cx} {i o e value : Expr} {ti to te tv : TE} {pos pos' apos cpos : Pos}
end
end L2
set_option maxRecDepth 100000
namespace L2
open PySem PySem.Spec PyProof.Rows
section
variable {X : Cx} {pins : List (Addr × Obj)} {σ : St} {H : Hp} {s : Shared} {h' : Heap}
end
section
variable {X : Cx} {elts : List Expr} {x1 : _} {tpos : Pos}
end
section
variable {K : PySem.W.Frag} {g : TG} {tb : TS} {D : Ends} {σ : St} {H : Hp} {ta : TA}
end
end L2
set_option maxRecDepth 100000
namespace L2
open PySem PySem.Spec PyProof.Rows
noncomputable def dodO (a : Addr) (i : Int) (z : V) (H : Hp) (Q : VK) : Option HO → Prop
 | some (.dK kvs) => (∀ v, valV kvs (ik i) = some v → Q v (upd H a (.dK (dropK kvs (ik i))))) ∧ (valV kvs (ik i) = none → Q z H)
 | _ => False
noncomputable def rDPopD (x y z : V) (H : Hp) (Q : VK) : Prop := match x, y with
 | .ref a, .int i => dodO a i z H Q (H a)
 | _, _ => False
noncomputable def tDPopD (to ti tz : TE) : TE := fun σ H Q => to σ H fun x H1 => rIsD x H1 ∧ ti σ H1 fun y H2 => tz σ H2 fun z H3 => rDPopD x y z H3 Q
theorem rDPopD_ref {i : Int} {a : Addr} {z : V} {H : Hp} {Q : VK} : rDPopD (.ref a) (.int i) z H Q = dodO a i z H Q (H a) := rfl
theorem dodO_k {a : Addr} {i : Int} {z : V} {H : Hp} {Q : VK} {kvs : List (Key × V)} : dodO a i z H Q (some (.dK kvs)) = ((∀ v, valV kvs (ik i) = some v → Q v (upd H a (.dK (dropK kvs (ik i))))) ∧ (valV kvs (ik i) = none → Q z H)) := rfl
section
variable {X : Cx} {o e f : Expr} {to te tf : TE} {apos cpos : Pos}
end
section
variable {X : Cx} {pos : Pos}
structure QE (X : Cx) (e : Expr) (t : TE) : Prop where
 h : PE X e t
structure QS (X : Cx) (st : Stmt) (t : TS) : Prop where
 h : PS X st t
structure QSs (X : Cx) (l : List Stmt) (t : TS) : Prop where
 h : PSs X l t
theorem qss_one {st : Stmt} {t : TS} (h1 : QS X st t) : QSs X [st] t := ⟨pss_one h1.h⟩
theorem qss_cons {st : Stmt} {rest : List Stmt} {t u : TS} (h1 : QS X st t) (h2 : QSs X rest u) : QSs X (st :: rest) (tSeq t u) := ⟨pss_cons h1.h h2.h⟩
theorem qs_setQ {i : Nat} {x : Str} {e : Expr} {te : TE} {pos' : Pos} (hN : X.N.Nodup) (hi : X.N[i]? = some x) (hx : Loc X.env.scope x) (he : QE X e te) (h : isComp e = false := by rfl) (hf : X.fn x = true ∨ X.env.scope.names.lookup x = some .local := by first | exact .inl rfl | exact .inr rfl | assumption) :
  QS X (.Assign [.Name x pos'] e pos) (tAsg te (gName i)) := ⟨ps_setQ hN hi hx he.h h hf⟩
end
end L2
set_option maxRecDepth 100000
namespace L2
open PySem PySem.Spec PyProof.Rows
section
variable {X : Cx} {elts : List Expr} {x1 : _} {tpos : Pos}
end
section
variable {nv : Nat} {ix : List Nat} {g : TG} {tt : TT} {te : TE} {tb : TS} {D : Ends} {σ : St} {H : Hp} {ta : TA} {Q : VK}
end
section
variable {K : PySem.W.Frag} {g : TG} {tt : TT} {te : TE} {H : Hp} {σ : St} {Q : List V → Hp → Prop}
theorem co_any {J : It} {n : Nat} (Pv : Nat → List V → St → Hp → Prop) (h0 : Pv 0 [] σ H) (hz : n ≤ sizeLine) (hl : ∀ i ys σ H, Pv i ys σ H → ys.length ≤ i) (go : ∀ i ys σ H, i < n → Pv i ys σ H → J.go i H) (stop : ∀ ys σ H, Pv n ys σ H → J.stop n H)
  (step : ∀ i ys σ H x H'', i < n → Pv i ys σ H → J.yld i H x H'' → g x σ H'' fun σ2 H2 => tt σ2 H2 fun b H3 => if b = true then te σ2 H3 fun y H4 => Pv (i + 1) (ys ++ [y]) σ2 H4 else Pv (i + 1) ys σ2 H3) (q : ∀ ys σ H, Pv n ys σ H → Q ys H) : compR J g tt te σ H Q := by
 refine ⟨fun i m ys σ' H' => i ≤ n ∧ m = n - i ∧ Pv i ys σ' H', ⟨n, Nat.zero_le _, rfl, h0⟩, ?_⟩
 rintro i m ys σ' H' ⟨hi, rfl, hp⟩
 by_cases e : i = n
 ·subst e
  exact .inl ⟨stop _ _ _ hp, q _ _ _ hp⟩
 ·have hlt : i < n := by omega
  refine .inr ⟨go i _ _ _ hlt hp, by have := hl _ _ _ _ hp; omega, fun ys' σ'' H'' => Pv (i + 1) ys' σ'' H'', fun ys' σ'' H'' p' => ⟨n - (i + 1), by omega, by omega, rfl, p'⟩, fun x H'' y => step i ys σ' H' x H'' hlt hp y⟩
theorem co_rngH {lo : Int} {n : Nat} (Pv : Nat → List V → St → Hp → Prop) (h0 : Pv 0 [] σ H) (hz : n ≤ sizeLine) (hl : ∀ i ys σ H, Pv i ys σ H → ys.length ≤ i)
  (step : ∀ (i : Nat) ys σ H, i < n → Pv i ys σ H → g (.int (lo + i)) σ H fun σ2 H2 => tt σ2 H2 fun b H3 => if b = true then te σ2 H3 fun y H4 => Pv (i + 1) (ys ++ [y]) σ2 H4 else Pv (i + 1) ys σ2 H3) (q : ∀ ys σ H, Pv n ys σ H → Q ys H) : compR (Itr lo n) g tt te σ H Q := by
 refine co_any Pv h0 hz hl (fun i _ _ _ hi _ => hi) (fun _ _ _ _ => Nat.le_refl _) (fun i ys σ H x H'' hi hp y => ?_) q
 obtain ⟨e, rfl⟩ := y
 subst e
 exact step i ys σ _ hi hp
end
end L2
set_option maxRecDepth 100000
namespace L2
open PySem PySem.Spec PyProof.Rows
section
variable {M : Model} {A : Around} {E : Value → Shared → Prop} {s : Shared}
end
section
variable {P : Program} {w : World} {K : PySem.W.Frag} {mg : Str → Option Value} {base : Heap} {N : List Str} {qual : Str} {scope : Scope} {f : Addr} {cd : Value} {A : Around} {outer : List Env} {s : Shared} {H : Hp} {E : XK}
end
section
variable {X : Cx} {E : XK}
end
section
variable {X : Cx} {E : XK}
end
end L2
set_option maxRecDepth 100000
set_option maxHeartbeats 1000000
namespace L2
open PySem PySem.Spec PyProof.Rows
section
variable {prog : Program} {w : World} {A : Around} {s : Shared} {K : PySem.W.Frag} {x C R : Addr} {cd : ClassData} {name : Str} {v : Value}
end
section
variable {prog : Program} {w : World} {A : Around} {E : Value → Shared → Prop} {h : Heap} {g : Array GenState} {d : Drawn} {t : Nat} {os : OsState} {K : PySem.W.Frag}
variable {nm q : Str} {C N : Addr} {bs bm : List Value} {hdct : Bool} {sn : List Str} {sub : List Value} {ab : Bool} {col : Option Bool} {dd : Option Addr} {k0 k1 k2 k3 k5 : Option Value}
end
end L2
set_option maxRecDepth 100000
set_option maxHeartbeats 1000000
namespace L2
open PySem PySem.Spec PyProof.Rows
section
variable {X : Cx} {pins : List (Addr × Obj)} {σ : St} {H : Hp} {s : Shared} {h' : Heap} {e C : Addr}
end
section
variable {X : Cx} {E : XK}
end
section
variable {X : Cx} {E : XK}
end
end L2
set_option maxRecDepth 100000
set_option maxHeartbeats 1000000
namespace L2
open PySem PySem.Spec PyProof.Rows
section
variable {X : Cx} {pins : List (Addr × Obj)} {σ : St} {H : Hp} {s : Shared} {h' : Heap} {ea : Addr} {cls : Value} {dx tb : Option Addr}
end
section
variable {X : Cx} {pins pn : List (Addr × Obj)} {σ σ0 : St} {H : Hp} {s : Shared} {E : XK}
end
end L2
set_option maxRecDepth 100000
set_option maxHeartbeats 1000000
namespace L2
open PySem PySem.Spec PyProof.Rows
section
variable {X : Cx} {CX : CXT} {k n : Nat} {f C : Addr} {fd : FuncData} {ps : List Str} {sp : Sp} {E : XK} {x m : Str} {p pos apos : Pos} {e o : Expr} {es : List Expr} {ta : TE} {t : TA} {σ0 : St}
end
section
variable {prog : Program} {w : World} {A : Around} {E : Value → Shared → Prop} {s : Shared} {K : PySem.W.Frag}
end
section
variable {X : Cx} {pins : List (Addr × Obj)} {σ : St} {H : Hp} {s : Shared} {M : Model} {A : Around} {E : Value → Shared → Prop}
end
section
variable {X : Cx}
end
end L2
set_option maxRecDepth 100000
set_option maxHeartbeats 1000000
namespace L2
open PySem PySem.Spec PyProof.Rows
section
variable {prog : Program} {w : World} {A : Around} {s : Shared} {K : PySem.W.Frag} {x C : Addr} {ox : Obj} {od : Option Obj} {name : Str}
end
section
variable {X : Cx} {e : Expr} {f x : Str} {C : Addr} {ta : TE} {pos : Pos}
end
section
variable {X : Cx} {CX : CXT} {k n : Nat} {C R : Addr} {ps : List Str} {sp : Sp} {E : XK} {x m : Str} {p pos apos : Pos} {e o : Expr} {es : List Expr} {ta : TE} {t : TA} {st : Stmt} {ts : TS}
end
end L2
set_option maxRecDepth 100000
set_option maxHeartbeats 1000000
namespace L2
open PySem PySem.Spec PyProof.Rows
section
variable {X : Cx} {pins : List (Addr × Obj)} {σ : St} {H : Hp} {s : Shared}
open Classical in
open Classical in
open Classical in
open Classical in
end
section
variable {X : Cx}
open Classical in
open Classical in
end
section
variable {K : PySem.W.Frag} {H : Hp} {Q : VK}
end
end L2
set_option maxRecDepth 100000
set_option maxHeartbeats 1000000
namespace L2
open PySem PySem.Spec PyProof.Rows
end L2
set_option maxRecDepth 100000
set_option maxHeartbeats 1000000
namespace L2
open PySem PySem.Spec PyProof.Rows
structure QA (X : Cx) (es : List Expr) (t : TA) : Prop where
 h : PA X es t
section
variable {X : Cx}
theorem qa_nil : QA X [] tNil := ⟨pa_nil⟩
theorem qa_q {e : Expr} {es : List Expr} {te : TE} {t : TA} (ha : QE X e te) (hr : QA X es t) (h : isStar e = false := by rfl) : QA X (e :: es) (tCons te t) := ⟨pa_q ha.h hr.h h⟩
theorem qe_tup {es : List Expr} {t : TA} {k : Nat} {pos : Pos} (h : QA X es t) : QE X (.Tuple es k pos) (tTup t) := ⟨pe_tup h.h⟩
theorem qe_lst {es : List Expr} {t : TA} {pos : Pos} (h : QA X es t) : QE X (.List es pos) (tLst t) := ⟨pe_lst h.h⟩
theorem qs_if {e : Expr} {t : TT} {a b : List Stmt} {ta tb : TS} {pos : Pos} (h : PT X e t) (ha : QSs X a ta) (hb : QSs X b tb) : QS X (.If e a b pos) (tIfS t ta tb) := ⟨ps_if h ha.h hb.h⟩
theorem qss_nil : QSs X [] tNext := ⟨pss_nil⟩
end
end L2
set_option maxRecDepth 100000
namespace L2
open PySem PySem.Spec PyProof.Rows
noncomputable def dgtO (i : Int) (z : V) (H : Hp) (Q : VK) : Option HO → Prop
 | some (.dK kvs) => Q ((valV kvs (ik i)).getD z) H
 | _ => False
noncomputable def rDGtD (x y z : V) (H : Hp) (Q : VK) : Prop := match x, y with
 | .ref a, .int i => dgtO i z H Q (H a)
 | _, _ => False
noncomputable def tDGtD (to ti tz : TE) : TE := fun σ H Q => to σ H fun x H1 => rIsD x H1 ∧ ti σ H1 fun y H2 => tz σ H2 fun z H3 => rDGtD x y z H3 Q
theorem rDGtD_ref {i : Int} {a : Addr} {z : V} {H : Hp} {Q : VK} : rDGtD (.ref a) (.int i) z H Q = dgtO i z H Q (H a) := rfl
theorem dgtO_k {i : Int} {z : V} {H : Hp} {Q : VK} {kvs : List (Key × V)} : dgtO i z H Q (some (.dK kvs)) = Q ((valV kvs (ik i)).getD z) H := rfl
noncomputable def dsdO (a : Addr) (i : Int) (z : V) (H : Hp) (Q : VK) : Option HO → Prop
 | some (.dK kvs) => kvs.length < sizeLine ∧ (∀ v, valV kvs (ik i) = some v → Q v H) ∧ (valV kvs (ik i) = none → Q z (upd H a (.dK (putK kvs (ik i) z))))
 | _ => False
noncomputable def rDSdD (x y z : V) (H : Hp) (Q : VK) : Prop := match x, y with
 | .ref a, .int i => dsdO a i z H Q (H a)
 | _, _ => False
noncomputable def tDSdD (to ti tz : TE) : TE := fun σ H Q => to σ H fun x H1 => rIsD x H1 ∧ ti σ H1 fun y H2 => tz σ H2 fun z H3 => rDSdD x y z H3 Q
theorem rDSdD_ref {i : Int} {a : Addr} {z : V} {H : Hp} {Q : VK} : rDSdD (.ref a) (.int i) z H Q = dsdO a i z H Q (H a) := rfl
theorem dsdO_k {a : Addr} {i : Int} {z : V} {H : Hp} {Q : VK} {kvs : List (Key × V)} : dsdO a i z H Q (some (.dK kvs)) = (kvs.length < sizeLine ∧ (∀ v, valV kvs (ik i) = some v → Q v H) ∧ (valV kvs (ik i) = none → Q z (upd H a (.dK (putK kvs (ik i) z))))) := rfl
section
variable {X : Cx} {o e f : Expr} {to te tf : TE} {apos cpos : Pos}
theorem dgt_split {x y z : V} {H : Hp} {Q : VK} (q : rDGtD x y z H Q) : ∃ j a kvs, y = .int j ∧ x = .ref a ∧ H a = some (.dK kvs) ∧ Q ((valV kvs (ik j)).getD z) H := by
 unfold rDGtD at q
 split at q
 ·rename_i a j
  unfold dgtO at q
  split at q
  ·rename_i kvs e1; exact ⟨j, a, kvs, rfl, rfl, e1, q⟩
  ·exact q.elim
 ·exact q.elim
theorem dsd_split {x y z : V} {H : Hp} {Q : VK} (q : rDSdD x y z H Q) : ∃ j a kvs, y = .int j ∧ x = .ref a ∧ H a = some (.dK kvs) ∧ kvs.length < sizeLine ∧ (∀ v, valV kvs (ik j) = some v → Q v H) ∧ (valV kvs (ik j) = none → Q z (upd H a (.dK (putK kvs (ik j) z)))) := by
 unfold rDSdD at q
 split at q
 ·rename_i a j
  unfold dsdO at q
  split at q
  ·rename_i kvs e1; exact ⟨j, a, kvs, rfl, rfl, e1, q⟩
  ·exact q.elim
 ·exact q.elim
theorem isD_split {x : V} {H : Hp} (hd : rIsD x H) : ∃ a kvs, x = .ref a ∧ H a = some (.dK kvs) := by
 unfold rIsD at hd
 split at hd
 ·rename_i a
  unfold isDO at hd
  split at hd
  ·rename_i kvs e; exact ⟨a, kvs, rfl, e⟩
  ·exact hd.elim
 ·exact hd.elim
theorem pe_dgtD (ho : PE X o to) (he : PE X e te) (hf : PE X f tf) (hb : attributeBase o "get" X.env (eval o X.env) = eval o X.env := by rfl)
  (hfew : ((backTo cpos (starEach [e, f] X.env)).all (fun x => !x.1) && (backToKw cpos (keywordEach [] X.env)).all (fun x => x.1.isSome)
   && decide (([e, f] : List Expr).length + ([] : List Keyword).length + (if ([] : List Keyword).isEmpty then 0 else 1) < 30)) = true := by rfl)
  (hline : (apos.endLine == cpos.line) = true := by rfl) (ht : backTo cpos (starEach [e, f] X.env) = [(false, eval e X.env), (false, eval f X.env)] := by rfl) : PE X (.Call (.Attribute o "get" apos) [e, f] [] cpos) (tDGtD to te tf) := by
 intro pins s σ H Q I h
 refine wpAny_Call_method hb hfew hline PySem.F.plainAttrs_dict PySem.F.slot_dict_get PySem.F.type_dict_get (thn (ho pins s σ H _ I h) fun u s1 ⟨x, H1, I1, rx, hd, q1⟩ => ?_)
 obtain ⟨a, kvs, rfl, e0⟩ := isD_split hd
 obtain rfl : u = Value.ref a := rx
 obtain ⟨t1, t2, _⟩ := isD_at I1 (.inl ⟨kvs, .inl e0⟩)
 refine ⟨t1, t2, ?_⟩
 rw [ht]
 refine Calls.callWith_builtin rfl (Calls.evalArgs_plain (Calls.spliced_cons (thn (he pins s1 σ H1 _ I1 q1) fun iv s2 ⟨y, H2, I2, ry, q2⟩ =>
  Calls.spliced_cons (thn (hf pins s2 σ H2 _ I2 q2) fun fv s3 ⟨z, H3, I3, rz, q3⟩ => Calls.spliced_nil ?_))))
 obtain ⟨j, a', kvs', rfl, ea, e1, q4⟩ := dgt_split q3
 cases ea
 obtain ⟨_, hdd, vs, rel, dd⟩ := dk_of I3.hok e1
 refine call_meetsIn PySem.F.slot_dict_get dd.typeIs PySem.F.entry_dict_get (PySem.F.args_dict_get_3 _ _ _) (meets_dict_get_default (mixKind X.prog X.w) a (k := ik j) (kV_is ry) hdd fv) ⟨_, dd.mapOf, ?_⟩
 cases l : valV kvs' (ik j) with
 | some v =>
  obtain ⟨w', hw, rw'⟩ := RelO.some_of (v := v) (o := valueAt vs (ik j)) (by rw [← l]; exact rel.val (ik j))
  rw [l] at q4
  exact ⟨v, H3, I3.tok _, by rw [hw]; exact rw', q4⟩
 | none =>
  have hn : valueAt vs (ik j) = none := RelO.none_of (by rw [← l]; exact rel.val (ik j))
  rw [l] at q4
  exact ⟨z, H3, I3.tok _, by rw [hn]; exact rz, q4⟩
theorem pe_dsdD (ho : PE X o to) (he : PE X e te) (hf : PE X f tf) (hb : attributeBase o "setdefault" X.env (eval o X.env) = eval o X.env := by rfl)
  (hfew : ((backTo cpos (starEach [e, f] X.env)).all (fun x => !x.1) && (backToKw cpos (keywordEach [] X.env)).all (fun x => x.1.isSome)
   && decide (([e, f] : List Expr).length + ([] : List Keyword).length + (if ([] : List Keyword).isEmpty then 0 else 1) < 30)) = true := by rfl)
  (hline : (apos.endLine == cpos.line) = true := by rfl) (ht : backTo cpos (starEach [e, f] X.env) = [(false, eval e X.env), (false, eval f X.env)] := by rfl) : PE X (.Call (.Attribute o "setdefault" apos) [e, f] [] cpos) (tDSdD to te tf) := by
 intro pins s σ H Q I h
 refine wpAny_Call_method hb hfew hline PySem.F.plainAttrs_dict PySem.F.slot_dict_setdefault PySem.F.type_dict_setdefault (thn (ho pins s σ H _ I h) fun u s1 ⟨x, H1, I1, rx, hd, q1⟩ => ?_)
 obtain ⟨a, kvs, rfl, e0⟩ := isD_split hd
 obtain rfl : u = Value.ref a := rx
 obtain ⟨t1, t2, _⟩ := isD_at I1 (.inl ⟨kvs, .inl e0⟩)
 refine ⟨t1, t2, ?_⟩
 rw [ht]
 refine Calls.callWith_builtin rfl (Calls.evalArgs_plain (Calls.spliced_cons (thn (he pins s1 σ H1 _ I1 q1) fun iv s2 ⟨y, H2, I2, ry, q2⟩ =>
  Calls.spliced_cons (thn (hf pins s2 σ H2 _ I2 q2) fun fv s3 ⟨z, H3, I3, rz, q3⟩ => Calls.spliced_nil ?_))))
 obtain ⟨j, a', kvs', rfl, ea, e1, hl, q4, q5⟩ := dsd_split q3
 cases ea
 obtain ⟨zz, hdd, vs, rel, dd⟩ := dk_of I3.hok e1
 refine call_meetsIn PySem.F.slot_dict_setdefault dd.typeIs PySem.F.entry_dict_setdefault (PySem.F.args_dict_setdefault_3 _ _ _) (kt_meets_setdefault (mixKind X.prog X.w) a (k := ik j) (kV_is ry) hdd fv)
  ⟨vs, dd, by rw [← rel.length]; exact zz, fun v' hv' => ?_, fun hn h' dd' hs => ?_⟩
 ·cases l : valV kvs' (ik j) with
  | some v =>
   obtain ⟨w', hw, rw'⟩ := RelO.some_of (v := v) (o := valueAt vs (ik j)) (by rw [← l]; exact rel.val (ik j))
   rw [hw] at hv'
   cases hv'
   exact ⟨v, H3, I3.tok _, rw', q4 v l⟩
  | none =>
   have hn : valueAt vs (ik j) = none := RelO.none_of (by rw [← l]; exact rel.val (ik j))
   rw [hn] at hv'
   cases hv'
 ·cases l : valV kvs' (ik j) with
  | some v =>
   obtain ⟨w', hw, rw'⟩ := RelO.some_of (v := v) (o := valueAt vs (ik j)) (by rw [← l]; exact rel.val (ik j))
   rw [hw] at hn
   cases hn
  | none =>
   have he : ∃ q, h'.get? a = some q := let ⟨q, _, _, hq, _⟩ := dd'; ⟨q, hq⟩
   have hl' : (putK kvs' (ik j) z).length ≤ sizeLine := by have := length_putK kvs' (ik j) z; omega
   exact ⟨z, _, d_write I3 (by rw [e1]; exact True.intro) hs he (dk_new hl' hdd (rel.put (ik j) rz) dd'), rz, q5 l⟩
end
end L2
namespace WaysM
noncomputable def nsp (a A b B m : Int) : Int × Int := low (3 * b * A + ((a - m * A).natAbs : Int) * B) (4 * (A * B))
noncomputable def nsm (a A m : Int) : Int × Int := low (3 * a + m * A) (4 * A)
structure St (n : Nat) (P S D a A b B : Int) : Prop where
 p : P = 4 ^ n
 s0 : 0 ≤ S
 s1 : S ≤ 1000000 * P
 d0 : 0 ≤ D
 d1 : D ≤ 2000000 * P
 sa : a * P = S * A
 db : b * (2 * P) = D * B
 a0 : 0 ≤ a
 b0 : 0 ≤ b
 pa : ∃ i, A = 2 ^ i
 pb : ∃ j, B = 2 ^ j
 oa : ¬ (a % 2 = 0 ∧ A % 2 = 0)
 ob : ¬ (b % 2 = 0 ∧ B % 2 = 0)
theorem two_pos (i : Nat) : (0 : Int) < 2 ^ i := by
 have : ((2 ^ i : Nat) : Int) = 2 ^ i := by simp
 have := Nat.two_pow_pos i
 omega
theorem four_pos (i : Nat) : (0 : Int) < 4 ^ i := by
 have : ((4 ^ i : Nat) : Int) = 4 ^ i := by simp
 have : 0 < 4 ^ i := Nat.pow_pos (by decide)
 omega
theorem St.A0 {n : Nat} {P S D a A b B : Int} (h : St n P S D a A b B) : 0 < A := by obtain ⟨i, e⟩ := h.pa; rw [e]; exact two_pos i
theorem St.B0 {n : Nat} {P S D a A b B : Int} (h : St n P S D a A b B) : 0 < B := by obtain ⟨i, e⟩ := h.pb; rw [e]; exact two_pos i
theorem St.P0 {n : Nat} {P S D a A b B : Int} (h : St n P S D a A b B) : 0 < P := by rw [h.p]; exact four_pos n
theorem small_bottom {b B D : Int} {k j : Nat} (hB : B = 2 ^ j) (h : b * 2 ^ k = D * B) (o : ¬ (b % 2 = 0 ∧ B % 2 = 0)) : B ≤ 2 ^ k := by
 by_cases hj : j ≤ k
 ·rw [hB]
  obtain ⟨d, rfl⟩ := Nat.exists_eq_add_of_le hj
  have h1 : (1 : Int) ≤ 2 ^ d := by have := two_pos d; omega
  have h2 := two_pos j
  rw [Int.pow_add]
  have := Int.mul_le_mul_of_nonneg_left h1 (Int.le_of_lt h2)
  omega
 ·exfalso
  obtain ⟨d, rfl⟩ := Nat.exists_eq_add_of_le (show k + 1 ≤ j by omega)
  apply o
  have e : (2 : Int) ^ (k + 1 + d) = 2 ^ k * (2 * 2 ^ d) := by rw [Int.pow_add, Int.pow_succ, Int.mul_assoc]
  rw [hB, e] at h
  have h2 : b = D * (2 * 2 ^ d) := by
   apply Int.eq_of_mul_eq_mul_left (Int.ne_of_gt (two_pos k))
   rw [Int.mul_comm, h]
   rw [Int.mul_left_comm]
  constructor
  ·rw [h2, Int.mul_left_comm]; exact Int.mul_emod_right _ _
  ·rw [hB, e, Int.mul_left_comm]; exact Int.mul_emod_right _ _
theorem four_two (n : Nat) : (4 : Int) ^ n = 2 ^ (2 * n) := by rw [Int.pow_mul]; rfl
theorem St.A1 {n : Nat} {P S D a A b B : Int} (h : St n P S D a A b B) : A ≤ P := by
 obtain ⟨i, e⟩ := h.pa
 have h1 := h.sa
 rw [h.p, four_two] at h1
 rw [h.p, four_two]
 exact small_bottom e h1 h.oa
theorem St.B1 {n : Nat} {P S D a A b B : Int} (h : St n P S D a A b B) : B ≤ 2 * P := by
 obtain ⟨i, e⟩ := h.pb
 have h1 := h.db
 have e2 : 2 * P = 2 ^ (2 * n + 1) := by rw [h.p, four_two, Int.pow_succ]; omega
 rw [e2] at h1 ⊢
 exact small_bottom e h1 h.ob
theorem St.a1 {n : Nat} {P S D a A b B : Int} (h : St n P S D a A b B) : a ≤ S := by
 have h1 := Int.mul_le_mul_of_nonneg_left h.A1 h.s0
 rw [← h.sa] at h1
 exact Int.le_of_mul_le_mul_right h1 h.P0
theorem St.b1 {n : Nat} {P S D a A b B : Int} (h : St n P S D a A b B) : b ≤ D := by
 have h1 := Int.mul_le_mul_of_nonneg_left h.B1 h.d0
 rw [← h.db] at h1
 exact Int.le_of_mul_le_mul_right h1 (by have := h.P0; omega)
theorem cancel {s x y : Int} (hs : 0 < s) (h : s * x = s * y) : x = y := Int.eq_of_mul_eq_mul_left (Int.ne_of_gt hs) h
theorem St.first {m : Int} (h0 : 0 ≤ m) (h1 : m ≤ 1000000) : St 0 1 m m m 1 (low m 2).1 (low m 2).2 := by
 obtain ⟨s, L⟩ := low_spec (t := m) (b := 2) h0 (by decide)
 obtain ⟨j, _, ej⟩ := pow_part 1 s _ L.s0 L.b0 (by simpa using L.bb)
 refine ⟨rfl, h0, by omega, h0, by omega, rfl, ?_, h0, L.t0, ⟨0, rfl⟩, ⟨j, ej⟩, by omega, L.od⟩
 apply cancel L.s0
 have e1 := L.tt
 have e2 := L.bb
 generalize (low m 2).1 = t at *
 generalize (low m 2).2 = b at *
 rw [e1] at *
 grind
theorem St.step {n : Nat} {P S D a A b B m : Int} (h : St n P S D a A b B) (h0 : 0 ≤ m) (h1 : m ≤ 1000000) :
  St (n + 1) (4 * P) (3 * S + m * P) (3 * D + 2 * ((S - m * P).natAbs : Int)) (nsm a A m).1 (nsm a A m).2 (nsp a A b B m).1 (nsp a A b B m).2 := by
 have A0 := h.A0
 have B0 := h.B0
 have P0 := h.P0
 have a0 := h.a0
 have b0 := h.b0
 have sa := h.sa
 have db := h.db
 have s0 := h.s0
 have s1 := h.s1
 have d0 := h.d0
 have d1 := h.d1
 have mA := Int.mul_nonneg h0 (Int.le_of_lt A0)
 have mP := Int.mul_nonneg h0 (Int.le_of_lt P0)
 have mP1 := Int.mul_le_mul_of_nonneg_right h1 (Int.le_of_lt P0)
 have AB := Int.mul_pos A0 B0
 have bA := Int.mul_nonneg b0 (Int.le_of_lt A0)
 have xB := Int.mul_nonneg (Int.natCast_nonneg (a - m * A).natAbs) (Int.le_of_lt B0)
 obtain ⟨s, L⟩ := low_spec (t := 3 * a + m * A) (b := 4 * A) (by omega) (by omega)
 obtain ⟨r, M⟩ := low_spec (t := 3 * b * A + ((a - m * A).natAbs : Int) * B) (b := 4 * (A * B)) (by rw [Int.mul_assoc]; omega) (by omega)
 obtain ⟨i, ei⟩ := h.pa
 obtain ⟨j, ej⟩ := h.pb
 have p1 : (2 : Int) ^ (i + 2) = s * (nsm a A m).2 := by
  refine Eq.trans ?_ L.bb
  rw [ei, Int.pow_add, Int.mul_comm]; rfl
 have p2 : (2 : Int) ^ (i + j + 2) = r * (nsp a A b B m).2 := by
  refine Eq.trans ?_ M.bb
  rw [ei, ej, ← Int.pow_add, Int.pow_add _ _ 2, Int.mul_comm]; rfl
 obtain ⟨i', _, ei'⟩ := pow_part _ _ _ L.s0 L.b0 p1
 obtain ⟨j', _, ej'⟩ := pow_part _ _ _ M.s0 M.b0 p2
 refine ⟨by rw [h.p, Int.pow_succ, Int.mul_comm], by omega, by omega, by omega, by omega, ?_, ?_, L.t0, M.t0, ⟨i', ei'⟩, ⟨j', ej'⟩, L.od, M.od⟩
 ·apply cancel L.s0
  have e1 := L.tt
  have e2 := L.bb
  unfold nsm
  generalize (low (3 * a + m * A) (4 * A)).1 = t at *
  generalize (low (3 * a + m * A) (4 * A)).2 = u at *
  have k1 : s * (t * (4 * P)) = (3 * a + m * A) * (4 * P) := by rw [e1]; grind
  have k2 : s * ((3 * S + m * P) * u) = (3 * S + m * P) * (4 * A) := by rw [e2]; grind
  rw [k1, k2]
  have : (3 * a + m * A) * (4 * P) = 12 * (a * P) + 4 * (m * A * P) := by grind
  rw [this, sa]
  grind
 ·apply cancel M.s0
  have e1 := M.tt
  have e2 := M.bb
  unfold nsp
  have ab : ((a - m * A).natAbs : Int) * P = ((S - m * P).natAbs : Int) * A := by
   have q1 : ((a - m * A) * P).natAbs = ((S - m * P) * A).natAbs := by
    have : (a - m * A) * P = (S - m * P) * A := by
     rw [Int.sub_mul, Int.sub_mul, sa]; grind
    rw [this]
   rw [Int.natAbs_mul, Int.natAbs_mul] at q1
   have q2 : ((P.natAbs : Nat) : Int) = P := by omega
   have q3 : ((A.natAbs : Nat) : Int) = A := by omega
   have q4 : (((a - m * A).natAbs * P.natAbs : Nat) : Int) = (((S - m * P).natAbs * A.natAbs : Nat) : Int) := by rw [q1]
   rw [Int.natCast_mul, Int.natCast_mul, q2, q3] at q4
   exact q4
  generalize ((a - m * A).natAbs : Int) = x at *
  generalize ((S - m * P).natAbs : Int) = y at *
  generalize (low (3 * b * A + x * B) (4 * (A * B))).1 = t at *
  generalize (low (3 * b * A + x * B) (4 * (A * B))).2 = u at *
  have k1 : r * (t * (2 * (4 * P))) = (3 * b * A + x * B) * (2 * (4 * P)) := by rw [e1]; grind
  have k2 : r * ((3 * D + 2 * y) * u) = (3 * D + 2 * y) * (4 * (A * B)) := by rw [e2]; grind
  rw [k1, k2]
  have : (3 * b * A + x * B) * (2 * (4 * P)) = 12 * A * (b * (2 * P)) + 8 * B * (x * P) := by grind
  rw [this, db, ab]
  grind
end WaysM
namespace WaysM
end WaysM
set_option maxRecDepth 100000
set_option maxHeartbeats 4000000
namespace K59
open PySem L2 Com
noncomputable def tHold (u : TS) : TS := u
theorem pss_hold {X : Cx} {l : List Stmt} {u : TS} (h : PSs X l u) : PSs X l (tHold u) := h
theorem qss_hold {X : Cx} {l : List Stmt} {u : TS} (h : QSs X l u) : QSs X l (tHold u) := ⟨h.h⟩
noncomputable def top (i : Nat) : Stmt := PySem.Challenge.pw_slowroad_k59_whole_all_comes.main.body.getD i (.Pass ⟨0, 0, 0, 0⟩)
theorem len_1 {α : Type} {us : List α} (h : us.length = 1) : ∃ a0, us = [a0] := List.length_eq_one_iff.mp h
theorem len_2 {α : Type} {us : List α} (h : us.length = 2) : ∃ a0 a1, us = [a0, a1] := by
 obtain ⟨a, t, rfl⟩ := List.exists_cons_of_length_eq_add_one h
 obtain ⟨b0, rfl⟩ := len_1 (Nat.succ.inj h)
 exact ⟨a, b0, rfl⟩
theorem len_3 {α : Type} {us : List α} (h : us.length = 3) : ∃ a0 a1 a2, us = [a0, a1, a2] := by
 obtain ⟨a, t, rfl⟩ := List.exists_cons_of_length_eq_add_one h
 obtain ⟨b0, b1, rfl⟩ := len_2 (Nat.succ.inj h)
 exact ⟨a, b0, b1, rfl⟩
theorem len_4 {α : Type} {us : List α} (h : us.length = 4) : ∃ a0 a1 a2 a3, us = [a0, a1, a2, a3] := by
 obtain ⟨a, t, rfl⟩ := List.exists_cons_of_length_eq_add_one h
 obtain ⟨b0, b1, b2, rfl⟩ := len_3 (Nat.succ.inj h)
 exact ⟨a, b0, b1, b2, rfl⟩
theorem len_5 {α : Type} {us : List α} (h : us.length = 5) : ∃ a0 a1 a2 a3 a4, us = [a0, a1, a2, a3, a4] := by
 obtain ⟨a, t, rfl⟩ := List.exists_cons_of_length_eq_add_one h
 obtain ⟨b0, b1, b2, b3, rfl⟩ := len_4 (Nat.succ.inj h)
 exact ⟨a, b0, b1, b2, b3, rfl⟩
theorem len_6 {α : Type} {us : List α} (h : us.length = 6) : ∃ a0 a1 a2 a3 a4 a5, us = [a0, a1, a2, a3, a4, a5] := by
 obtain ⟨a, t, rfl⟩ := List.exists_cons_of_length_eq_add_one h
 obtain ⟨b0, b1, b2, b3, b4, rfl⟩ := len_5 (Nat.succ.inj h)
 exact ⟨a, b0, b1, b2, b3, b4, rfl⟩
noncomputable abbrev s_Meter___init__ : Stmt := inClass (top 1) 0
theorem sc_Meter___init__ : FnScope ["self", "most"] ["self", "most"] (defScope s_Meter___init__) := ⟨rfl, rfl, rfl, by decide +kernel, rfl, by decide +kernel, by decide +kernel⟩
theorem bd_Meter___init__ : ∀ (kV doc pm : Value) (an : Option Addr) (cdv ct : Value) (us : List Value), us.length = (["self", "most"] : List Str).length → bindArgs (PySem.W.fnOf "__init__" "Meter.__init__" (defArgs s_Meter___init__) (defBody s_Meter___init__) (defScope s_Meter___init__) .none kV doc pm an cdv ct) ⟨us, []⟩ = pure ((["self", "most"] : List Str).zip us) := by
 intro _ _ _ _ _ _ us hl; obtain ⟨_, _, rfl⟩ := len_2 hl; rfl
noncomputable abbrev s_Meter_known : Stmt := inClass (top 1) 1
theorem sc_Meter_known : FnScope ["self", "many", "piece"] ["self", "many"] (defScope s_Meter_known) := ⟨rfl, rfl, rfl, by decide +kernel, rfl, by decide +kernel, by decide +kernel⟩
theorem bd_Meter_known : ∀ (kV doc pm : Value) (an : Option Addr) (cdv ct : Value) (us : List Value), us.length = (["self", "many"] : List Str).length → bindArgs (PySem.W.fnOf "known" "Meter.known" (defArgs s_Meter_known) (defBody s_Meter_known) (defScope s_Meter_known) .none kV doc pm an cdv ct) ⟨us, []⟩ = pure ((["self", "many"] : List Str).zip us) := by
 intro _ _ _ _ _ _ us hl; obtain ⟨_, _, rfl⟩ := len_2 hl; rfl
noncomputable abbrev s_Meter_know_one : Stmt := inClass (top 1) 2
theorem sc_Meter_know_one : FnScope ["self"] ["self"] (defScope s_Meter_know_one) := ⟨rfl, rfl, rfl, by decide +kernel, rfl, by decide +kernel, by decide +kernel⟩
theorem bd_Meter_know_one : ∀ (kV doc pm : Value) (an : Option Addr) (cdv ct : Value) (us : List Value), us.length = (["self"] : List Str).length → bindArgs (PySem.W.fnOf "know_one" "Meter.know_one" (defArgs s_Meter_know_one) (defBody s_Meter_know_one) (defScope s_Meter_know_one) .none kV doc pm an cdv ct) ⟨us, []⟩ = pure ((["self"] : List Str).zip us) := by
 intro _ _ _ _ _ _ us hl; obtain ⟨_, rfl⟩ := len_1 hl; rfl
noncomputable abbrev s_Meter_half : Stmt := inClass (top 1) 3
theorem sc_Meter_half : FnScope ["self"] ["self"] (defScope s_Meter_half) := ⟨rfl, rfl, rfl, by decide +kernel, rfl, by decide +kernel, by decide +kernel⟩
theorem bd_Meter_half : ∀ (kV doc pm : Value) (an : Option Addr) (cdv ct : Value) (us : List Value), us.length = (["self"] : List Str).length → bindArgs (PySem.W.fnOf "half" "Meter.half" (defArgs s_Meter_half) (defBody s_Meter_half) (defScope s_Meter_half) .none kV doc pm an cdv ct) ⟨us, []⟩ = pure ((["self"] : List Str).zip us) := by
 intro _ _ _ _ _ _ us hl; obtain ⟨_, rfl⟩ := len_1 hl; rfl
noncomputable abbrev s_Meter_ran_out : Stmt := inClass (top 1) 4
theorem sc_Meter_ran_out : FnScope ["self"] ["self"] (defScope s_Meter_ran_out) := ⟨rfl, rfl, rfl, by decide +kernel, rfl, by decide +kernel, by decide +kernel⟩
theorem bd_Meter_ran_out : ∀ (kV doc pm : Value) (an : Option Addr) (cdv ct : Value) (us : List Value), us.length = (["self"] : List Str).length → bindArgs (PySem.W.fnOf "ran_out" "Meter.ran_out" (defArgs s_Meter_ran_out) (defBody s_Meter_ran_out) (defScope s_Meter_ran_out) .none kV doc pm an cdv ct) ⟨us, []⟩ = pure ((["self"] : List Str).zip us) := by
 intro _ _ _ _ _ _ us hl; obtain ⟨_, rfl⟩ := len_1 hl; rfl
noncomputable abbrev s_Meter_hurried : Stmt := inClass (top 1) 5
theorem sc_Meter_hurried : FnScope ["self"] ["self"] (defScope s_Meter_hurried) := ⟨rfl, rfl, rfl, by decide +kernel, rfl, by decide +kernel, by decide +kernel⟩
theorem bd_Meter_hurried : ∀ (kV doc pm : Value) (an : Option Addr) (cdv ct : Value) (us : List Value), us.length = (["self"] : List Str).length → bindArgs (PySem.W.fnOf "hurried" "Meter.hurried" (defArgs s_Meter_hurried) (defBody s_Meter_hurried) (defScope s_Meter_hurried) .none kV doc pm an cdv ct) ⟨us, []⟩ = pure ((["self"] : List Str).zip us) := by
 intro _ _ _ _ _ _ us hl; obtain ⟨_, rfl⟩ := len_1 hl; rfl
noncomputable abbrev s_ahead : Stmt := top 3
theorem sc_ahead : FnScope ["ring", "one", "other"] ["ring", "one", "other"] (defScope s_ahead) := ⟨rfl, rfl, rfl, by decide +kernel, rfl, by decide +kernel, by decide +kernel⟩
theorem bd_ahead : ∀ (kV doc pm : Value) (an : Option Addr) (cdv ct : Value) (us : List Value), us.length = (["ring", "one", "other"] : List Str).length → bindArgs (PySem.W.fnOf "ahead" "ahead" (defArgs s_ahead) (defBody s_ahead) (defScope s_ahead) .none kV doc pm an cdv ct) ⟨us, []⟩ = pure ((["ring", "one", "other"] : List Str).zip us) := by
 intro _ _ _ _ _ _ us hl; obtain ⟨_, _, _, rfl⟩ := len_3 hl; rfl
noncomputable abbrev s_lowest : Stmt := top 6
theorem sc_lowest : FnScope ["top", "bottom", "shared"] ["top", "bottom"] (defScope s_lowest) := ⟨rfl, rfl, rfl, by decide +kernel, rfl, by decide +kernel, by decide +kernel⟩
theorem bd_lowest : ∀ (kV doc pm : Value) (an : Option Addr) (cdv ct : Value) (us : List Value), us.length = (["top", "bottom"] : List Str).length → bindArgs (PySem.W.fnOf "lowest" "lowest" (defArgs s_lowest) (defBody s_lowest) (defScope s_lowest) .none kV doc pm an cdv ct) ⟨us, []⟩ = pure ((["top", "bottom"] : List Str).zip us) := by
 intro _ _ _ _ _ _ us hl; obtain ⟨_, _, rfl⟩ := len_2 hl; rfl
noncomputable abbrev s_Ways___init__ : Stmt := inClass (top 7) 0
theorem sc_Ways___init__ : FnScope ["self", "first", "longest"] ["self", "first", "longest"] (defScope s_Ways___init__) := ⟨rfl, rfl, rfl, by decide +kernel, rfl, by decide +kernel, by decide +kernel⟩
theorem bd_Ways___init__ : ∀ (kV doc pm : Value) (an : Option Addr) (cdv ct : Value) (us : List Value), us.length = (["self", "first", "longest"] : List Str).length → bindArgs (PySem.W.fnOf "__init__" "Ways.__init__" (defArgs s_Ways___init__) (defBody s_Ways___init__) (defScope s_Ways___init__) .none kV doc pm an cdv ct) ⟨us, []⟩ = pure ((["self", "first", "longest"] : List Str).zip us) := by
 intro _ _ _ _ _ _ us hl; obtain ⟨_, _, _, rfl⟩ := len_3 hl; rfl
noncomputable abbrev s_Ways_measured : Stmt := inClass (top 7) 1
theorem sc_Ways_measured : FnScope ["self", "m"] ["self", "m"] (defScope s_Ways_measured) := ⟨rfl, rfl, rfl, by decide +kernel, rfl, by decide +kernel, by decide +kernel⟩
theorem bd_Ways_measured : ∀ (kV doc pm : Value) (an : Option Addr) (cdv ct : Value) (us : List Value), us.length = (["self", "m"] : List Str).length → bindArgs (PySem.W.fnOf "measured" "Ways.measured" (defArgs s_Ways_measured) (defBody s_Ways_measured) (defScope s_Ways_measured) .none kV doc pm an cdv ct) ⟨us, []⟩ = pure ((["self", "m"] : List Str).zip us) := by
 intro _ _ _ _ _ _ us hl; obtain ⟨_, _, rfl⟩ := len_2 hl; rfl
noncomputable abbrev s_Ways_next_spread : Stmt := inClass (top 7) 2
theorem sc_Ways_next_spread : FnScope ["self", "m", "bottoms", "away"] ["self", "m"] (defScope s_Ways_next_spread) := ⟨rfl, rfl, rfl, by decide +kernel, rfl, by decide +kernel, by decide +kernel⟩
theorem bd_Ways_next_spread : ∀ (kV doc pm : Value) (an : Option Addr) (cdv ct : Value) (us : List Value), us.length = (["self", "m"] : List Str).length → bindArgs (PySem.W.fnOf "next_spread" "Ways.next_spread" (defArgs s_Ways_next_spread) (defBody s_Ways_next_spread) (defScope s_Ways_next_spread) .none kV doc pm an cdv ct) ⟨us, []⟩ = pure ((["self", "m"] : List Str).zip us) := by
 intro _ _ _ _ _ _ us hl; obtain ⟨_, _, rfl⟩ := len_2 hl; rfl
noncomputable abbrev s_Ways_next_smooth : Stmt := inClass (top 7) 3
theorem sc_Ways_next_smooth : FnScope ["self", "m"] ["self", "m"] (defScope s_Ways_next_smooth) := ⟨rfl, rfl, rfl, by decide +kernel, rfl, by decide +kernel, by decide +kernel⟩
theorem bd_Ways_next_smooth : ∀ (kV doc pm : Value) (an : Option Addr) (cdv ct : Value) (us : List Value), us.length = (["self", "m"] : List Str).length → bindArgs (PySem.W.fnOf "next_smooth" "Ways.next_smooth" (defArgs s_Ways_next_smooth) (defBody s_Ways_next_smooth) (defScope s_Ways_next_smooth) .none kV doc pm an cdv ct) ⟨us, []⟩ = pure ((["self", "m"] : List Str).zip us) := by
 intro _ _ _ _ _ _ us hl; obtain ⟨_, _, rfl⟩ := len_2 hl; rfl
noncomputable abbrev s_Ways_least_wait : Stmt := inClass (top 7) 4
theorem sc_Ways_least_wait : FnScope ["self", "top"] ["self"] (defScope s_Ways_least_wait) := ⟨rfl, rfl, rfl, by decide +kernel, rfl, by decide +kernel, by decide +kernel⟩
theorem bd_Ways_least_wait : ∀ (kV doc pm : Value) (an : Option Addr) (cdv ct : Value) (us : List Value), us.length = (["self"] : List Str).length → bindArgs (PySem.W.fnOf "least_wait" "Ways.least_wait" (defArgs s_Ways_least_wait) (defBody s_Ways_least_wait) (defScope s_Ways_least_wait) .none kV doc pm an cdv ct) ⟨us, []⟩ = pure ((["self"] : List Str).zip us) := by
 intro _ _ _ _ _ _ us hl; obtain ⟨_, rfl⟩ := len_1 hl; rfl
noncomputable abbrev s_Ways_ran_out : Stmt := inClass (top 7) 5
theorem sc_Ways_ran_out : FnScope ["self"] ["self"] (defScope s_Ways_ran_out) := ⟨rfl, rfl, rfl, by decide +kernel, rfl, by decide +kernel, by decide +kernel⟩
theorem bd_Ways_ran_out : ∀ (kV doc pm : Value) (an : Option Addr) (cdv ct : Value) (us : List Value), us.length = (["self"] : List Str).length → bindArgs (PySem.W.fnOf "ran_out" "Ways.ran_out" (defArgs s_Ways_ran_out) (defBody s_Ways_ran_out) (defScope s_Ways_ran_out) .none kV doc pm an cdv ct) ⟨us, []⟩ = pure ((["self"] : List Str).zip us) := by
 intro _ _ _ _ _ _ us hl; obtain ⟨_, rfl⟩ := len_1 hl; rfl
noncomputable abbrev s_Sender___init__ : Stmt := inClass (top 10) 0
theorem sc_Sender___init__ : FnScope ["self", "ring", "first", "longest", "most"] ["self", "ring", "first", "longest", "most"] (defScope s_Sender___init__) := ⟨rfl, rfl, rfl, by decide +kernel, rfl, by decide +kernel, by decide +kernel⟩
theorem bd_Sender___init__ : ∀ (kV doc pm : Value) (an : Option Addr) (cdv ct : Value) (us : List Value), us.length = (["self", "ring", "first", "longest", "most"] : List Str).length → bindArgs (PySem.W.fnOf "__init__" "Sender.__init__" (defArgs s_Sender___init__) (defBody s_Sender___init__) (defScope s_Sender___init__) .none kV doc pm an cdv ct) ⟨us, []⟩ = pure ((["self", "ring", "first", "longest", "most"] : List Str).zip us) := by
 intro _ _ _ _ _ _ us hl; obtain ⟨_, _, _, _, _, rfl⟩ := len_5 hl; rfl
noncomputable abbrev s_Sender_put : Stmt := inClass (top 10) 1
theorem sc_Sender_put : FnScope ["self", "thing"] ["self", "thing"] (defScope s_Sender_put) := ⟨rfl, rfl, rfl, by decide +kernel, rfl, by decide +kernel, by decide +kernel⟩
theorem bd_Sender_put : ∀ (kV doc pm : Value) (an : Option Addr) (cdv ct : Value) (us : List Value), us.length = (["self", "thing"] : List Str).length → bindArgs (PySem.W.fnOf "put" "Sender.put" (defArgs s_Sender_put) (defBody s_Sender_put) (defScope s_Sender_put) .none kV doc pm an cdv ct) ⟨us, []⟩ = pure ((["self", "thing"] : List Str).zip us) := by
 intro _ _ _ _ _ _ us hl; obtain ⟨_, _, rfl⟩ := len_2 hl; rfl
noncomputable abbrev s_Sender_many : Stmt := inClass (top 10) 2
theorem sc_Sender_many : FnScope ["self"] ["self"] (defScope s_Sender_many) := ⟨rfl, rfl, rfl, by decide +kernel, rfl, by decide +kernel, by decide +kernel⟩
theorem bd_Sender_many : ∀ (kV doc pm : Value) (an : Option Addr) (cdv ct : Value) (us : List Value), us.length = (["self"] : List Str).length → bindArgs (PySem.W.fnOf "many" "Sender.many" (defArgs s_Sender_many) (defBody s_Sender_many) (defScope s_Sender_many) .none kV doc pm an cdv ct) ⟨us, []⟩ = pure ((["self"] : List Str).zip us) := by
 intro _ _ _ _ _ _ us hl; obtain ⟨_, rfl⟩ := len_1 hl; rfl
noncomputable abbrev s_Sender_heard : Stmt := inClass (top 10) 4
theorem sc_Sender_heard : FnScope ["self", "number", "room", "held", "turn", "steps", "fresh", "place"] ["self", "number", "room", "held", "turn"] (defScope s_Sender_heard) := ⟨rfl, rfl, rfl, by decide +kernel, rfl, by decide +kernel, by decide +kernel⟩
theorem bd_Sender_heard : ∀ (kV doc pm : Value) (an : Option Addr) (cdv ct : Value) (us : List Value), us.length = (["self", "number", "room", "held", "turn"] : List Str).length → bindArgs (PySem.W.fnOf "heard" "Sender.heard" (defArgs s_Sender_heard) (defBody s_Sender_heard) (defScope s_Sender_heard) .none kV doc pm an cdv ct) ⟨us, []⟩ = pure ((["self", "number", "room", "held", "turn"] : List Str).zip us) := by
 intro _ _ _ _ _ _ us hl; obtain ⟨_, _, _, _, _, rfl⟩ := len_5 hl; rfl
noncomputable abbrev s_Sender_grow_base : Stmt := inClass (top 10) 5
theorem sc_Sender_grow_base : FnScope ["self", "steps", "low"] ["self", "steps"] (defScope s_Sender_grow_base) := ⟨rfl, rfl, rfl, by decide +kernel, rfl, by decide +kernel, by decide +kernel⟩
theorem bd_Sender_grow_base : ∀ (kV doc pm : Value) (an : Option Addr) (cdv ct : Value) (us : List Value), us.length = (["self", "steps"] : List Str).length → bindArgs (PySem.W.fnOf "grow_base" "Sender.grow_base" (defArgs s_Sender_grow_base) (defBody s_Sender_grow_base) (defScope s_Sender_grow_base) .none kV doc pm an cdv ct) ⟨us, []⟩ = pure ((["self", "steps"] : List Str).zip us) := by
 intro _ _ _ _ _ _ us hl; obtain ⟨_, _, rfl⟩ := len_2 hl; rfl
noncomputable abbrev s_Sender_note_held : Stmt := inClass (top 10) 6
theorem sc_Sender_note_held : FnScope ["self", "held"] ["self", "held"] (defScope s_Sender_note_held) := ⟨rfl, rfl, rfl, by decide +kernel, rfl, by decide +kernel, by decide +kernel⟩
theorem bd_Sender_note_held : ∀ (kV doc pm : Value) (an : Option Addr) (cdv ct : Value) (us : List Value), us.length = (["self", "held"] : List Str).length → bindArgs (PySem.W.fnOf "note_held" "Sender.note_held" (defArgs s_Sender_note_held) (defBody s_Sender_note_held) (defScope s_Sender_note_held) .none kV doc pm an cdv ct) ⟨us, []⟩ = pure ((["self", "held"] : List Str).zip us) := by
 intro _ _ _ _ _ _ us hl; obtain ⟨_, _, rfl⟩ := len_2 hl; rfl
noncomputable abbrev s_Sender_newly_known : Stmt := inClass (top 10) 7
theorem sc_Sender_newly_known : FnScope ["self", "places", "fresh", "place"] ["self", "places"] (defScope s_Sender_newly_known) := ⟨rfl, rfl, rfl, by decide +kernel, rfl, by decide +kernel, by decide +kernel⟩
theorem bd_Sender_newly_known : ∀ (kV doc pm : Value) (an : Option Addr) (cdv ct : Value) (us : List Value), us.length = (["self", "places"] : List Str).length → bindArgs (PySem.W.fnOf "newly_known" "Sender.newly_known" (defArgs s_Sender_newly_known) (defBody s_Sender_newly_known) (defScope s_Sender_newly_known) .none kV doc pm an cdv ct) ⟨us, []⟩ = pure ((["self", "places"] : List Str).zip us) := by
 intro _ _ _ _ _ _ us hl; obtain ⟨_, _, rfl⟩ := len_2 hl; rfl
noncomputable abbrev s_Sender_known_above_base : Stmt := inClass (top 10) 8
theorem sc_Sender_known_above_base : FnScope ["self"] ["self"] (defScope s_Sender_known_above_base) := ⟨rfl, rfl, rfl, by decide +kernel, rfl, by decide +kernel, by decide +kernel⟩
theorem bd_Sender_known_above_base : ∀ (kV doc pm : Value) (an : Option Addr) (cdv ct : Value) (us : List Value), us.length = (["self"] : List Str).length → bindArgs (PySem.W.fnOf "known_above_base" "Sender.known_above_base" (defArgs s_Sender_known_above_base) (defBody s_Sender_known_above_base) (defScope s_Sender_known_above_base) .none kV doc pm an cdv ct) ⟨us, []⟩ = pure ((["self"] : List Str).zip us) := by
 intro _ _ _ _ _ _ us hl; obtain ⟨_, rfl⟩ := len_1 hl; rfl
noncomputable abbrev s_Sender_under_way : Stmt := inClass (top 10) 9
theorem sc_Sender_under_way : FnScope ["self"] ["self"] (defScope s_Sender_under_way) := ⟨rfl, rfl, rfl, by decide +kernel, rfl, by decide +kernel, by decide +kernel⟩
theorem bd_Sender_under_way : ∀ (kV doc pm : Value) (an : Option Addr) (cdv ct : Value) (us : List Value), us.length = (["self"] : List Str).length → bindArgs (PySem.W.fnOf "under_way" "Sender.under_way" (defArgs s_Sender_under_way) (defBody s_Sender_under_way) (defScope s_Sender_under_way) .none kV doc pm an cdv ct) ⟨us, []⟩ = pure ((["self"] : List Str).zip us) := by
 intro _ _ _ _ _ _ us hl; obtain ⟨_, rfl⟩ := len_1 hl; rfl
noncomputable abbrev s_Sender_thing_waits : Stmt := inClass (top 10) 10
theorem sc_Sender_thing_waits : FnScope ["self"] ["self"] (defScope s_Sender_thing_waits) := ⟨rfl, rfl, rfl, by decide +kernel, rfl, by decide +kernel, by decide +kernel⟩
theorem bd_Sender_thing_waits : ∀ (kV doc pm : Value) (an : Option Addr) (cdv ct : Value) (us : List Value), us.length = (["self"] : List Str).length → bindArgs (PySem.W.fnOf "thing_waits" "Sender.thing_waits" (defArgs s_Sender_thing_waits) (defBody s_Sender_thing_waits) (defScope s_Sender_thing_waits) .none kV doc pm an cdv ct) ⟨us, []⟩ = pure ((["self"] : List Str).zip us) := by
 intro _ _ _ _ _ _ us hl; obtain ⟨_, rfl⟩ := len_1 hl; rfl
noncomputable abbrev s_Sender_clock_is_out : Stmt := inClass (top 10) 11
theorem sc_Sender_clock_is_out : FnScope ["self", "turn"] ["self", "turn"] (defScope s_Sender_clock_is_out) := ⟨rfl, rfl, rfl, by decide +kernel, rfl, by decide +kernel, by decide +kernel⟩
theorem bd_Sender_clock_is_out : ∀ (kV doc pm : Value) (an : Option Addr) (cdv ct : Value) (us : List Value), us.length = (["self", "turn"] : List Str).length → bindArgs (PySem.W.fnOf "clock_is_out" "Sender.clock_is_out" (defArgs s_Sender_clock_is_out) (defBody s_Sender_clock_is_out) (defScope s_Sender_clock_is_out) .none kV doc pm an cdv ct) ⟨us, []⟩ = pure ((["self", "turn"] : List Str).zip us) := by
 intro _ _ _ _ _ _ us hl; obtain ⟨_, _, rfl⟩ := len_2 hl; rfl
noncomputable abbrev s_Sender_hurry_is_due : Stmt := inClass (top 10) 12
theorem sc_Sender_hurry_is_due : FnScope ["self"] ["self"] (defScope s_Sender_hurry_is_due) := ⟨rfl, rfl, rfl, by decide +kernel, rfl, by decide +kernel, by decide +kernel⟩
theorem bd_Sender_hurry_is_due : ∀ (kV doc pm : Value) (an : Option Addr) (cdv ct : Value) (us : List Value), us.length = (["self"] : List Str).length → bindArgs (PySem.W.fnOf "hurry_is_due" "Sender.hurry_is_due" (defArgs s_Sender_hurry_is_due) (defBody s_Sender_hurry_is_due) (defScope s_Sender_hurry_is_due) .none kV doc pm an cdv ct) ⟨us, []⟩ = pure ((["self"] : List Str).zip us) := by
 intro _ _ _ _ _ _ us hl; obtain ⟨_, rfl⟩ := len_1 hl; rfl
noncomputable abbrev s_Sender_new_may_go : Stmt := inClass (top 10) 13
theorem sc_Sender_new_may_go : FnScope ["self"] ["self"] (defScope s_Sender_new_may_go) := ⟨rfl, rfl, rfl, by decide +kernel, rfl, by decide +kernel, by decide +kernel⟩
theorem bd_Sender_new_may_go : ∀ (kV doc pm : Value) (an : Option Addr) (cdv ct : Value) (us : List Value), us.length = (["self"] : List Str).length → bindArgs (PySem.W.fnOf "new_may_go" "Sender.new_may_go" (defArgs s_Sender_new_may_go) (defBody s_Sender_new_may_go) (defScope s_Sender_new_may_go) .none kV doc pm an cdv ct) ⟨us, []⟩ = pure ((["self"] : List Str).zip us) := by
 intro _ _ _ _ _ _ us hl; obtain ⟨_, rfl⟩ := len_1 hl; rfl
noncomputable abbrev s_Sender_go : Stmt := inClass (top 10) 14
theorem sc_Sender_go : FnScope ["self", "turn"] ["self", "turn"] (defScope s_Sender_go) := ⟨rfl, rfl, rfl, by decide +kernel, rfl, by decide +kernel, by decide +kernel⟩
theorem bd_Sender_go : ∀ (kV doc pm : Value) (an : Option Addr) (cdv ct : Value) (us : List Value), us.length = (["self", "turn"] : List Str).length → bindArgs (PySem.W.fnOf "go" "Sender.go" (defArgs s_Sender_go) (defBody s_Sender_go) (defScope s_Sender_go) .none kV doc pm an cdv ct) ⟨us, []⟩ = pure ((["self", "turn"] : List Str).zip us) := by
 intro _ _ _ _ _ _ us hl; obtain ⟨_, _, rfl⟩ := len_2 hl; rfl
noncomputable abbrev s_Sender_set_clock : Stmt := inClass (top 10) 15
theorem sc_Sender_set_clock : FnScope ["self", "turn"] ["self", "turn"] (defScope s_Sender_set_clock) := ⟨rfl, rfl, rfl, by decide +kernel, rfl, by decide +kernel, by decide +kernel⟩
theorem bd_Sender_set_clock : ∀ (kV doc pm : Value) (an : Option Addr) (cdv ct : Value) (us : List Value), us.length = (["self", "turn"] : List Str).length → bindArgs (PySem.W.fnOf "set_clock" "Sender.set_clock" (defArgs s_Sender_set_clock) (defBody s_Sender_set_clock) (defScope s_Sender_set_clock) .none kV doc pm an cdv ct) ⟨us, []⟩ = pure ((["self", "turn"] : List Str).zip us) := by
 intro _ _ _ _ _ _ us hl; obtain ⟨_, _, rfl⟩ := len_2 hl; rfl
noncomputable abbrev s_Sender_go_again : Stmt := inClass (top 10) 16
theorem sc_Sender_go_again : FnScope ["self", "turn"] ["self", "turn"] (defScope s_Sender_go_again) := ⟨rfl, rfl, rfl, by decide +kernel, rfl, by decide +kernel, by decide +kernel⟩
theorem bd_Sender_go_again : ∀ (kV doc pm : Value) (an : Option Addr) (cdv ct : Value) (us : List Value), us.length = (["self", "turn"] : List Str).length → bindArgs (PySem.W.fnOf "go_again" "Sender.go_again" (defArgs s_Sender_go_again) (defBody s_Sender_go_again) (defScope s_Sender_go_again) .none kV doc pm an cdv ct) ⟨us, []⟩ = pure ((["self", "turn"] : List Str).zip us) := by
 intro _ _ _ _ _ _ us hl; obtain ⟨_, _, rfl⟩ := len_2 hl; rfl
noncomputable abbrev s_Sender_go_new : Stmt := inClass (top 10) 17
theorem sc_Sender_go_new : FnScope ["self", "turn", "place"] ["self", "turn"] (defScope s_Sender_go_new) := ⟨rfl, rfl, rfl, by decide +kernel, rfl, by decide +kernel, by decide +kernel⟩
theorem bd_Sender_go_new : ∀ (kV doc pm : Value) (an : Option Addr) (cdv ct : Value) (us : List Value), us.length = (["self", "turn"] : List Str).length → bindArgs (PySem.W.fnOf "go_new" "Sender.go_new" (defArgs s_Sender_go_new) (defBody s_Sender_go_new) (defScope s_Sender_go_new) .none kV doc pm an cdv ct) ⟨us, []⟩ = pure ((["self", "turn"] : List Str).zip us) := by
 intro _ _ _ _ _ _ us hl; obtain ⟨_, _, rfl⟩ := len_2 hl; rfl
noncomputable abbrev s_Sender_ask_for_room : Stmt := inClass (top 10) 18
theorem sc_Sender_ask_for_room : FnScope ["self", "turn"] ["self", "turn"] (defScope s_Sender_ask_for_room) := ⟨rfl, rfl, rfl, by decide +kernel, rfl, by decide +kernel, by decide +kernel⟩
theorem bd_Sender_ask_for_room : ∀ (kV doc pm : Value) (an : Option Addr) (cdv ct : Value) (us : List Value), us.length = (["self", "turn"] : List Str).length → bindArgs (PySem.W.fnOf "ask_for_room" "Sender.ask_for_room" (defArgs s_Sender_ask_for_room) (defBody s_Sender_ask_for_room) (defScope s_Sender_ask_for_room) .none kV doc pm an cdv ct) ⟨us, []⟩ = pure ((["self", "turn"] : List Str).zip us) := by
 intro _ _ _ _ _ _ us hl; obtain ⟨_, _, rfl⟩ := len_2 hl; rfl
noncomputable abbrev s_Taker___init__ : Stmt := inClass (top 12) 0
theorem sc_Taker___init__ : FnScope ["self", "ring", "room"] ["self", "ring", "room"] (defScope s_Taker___init__) := ⟨rfl, rfl, rfl, by decide +kernel, rfl, by decide +kernel, by decide +kernel⟩
theorem bd_Taker___init__ : ∀ (kV doc pm : Value) (an : Option Addr) (cdv ct : Value) (us : List Value), us.length = (["self", "ring", "room"] : List Str).length → bindArgs (PySem.W.fnOf "__init__" "Taker.__init__" (defArgs s_Taker___init__) (defBody s_Taker___init__) (defScope s_Taker___init__) .none kV doc pm an cdv ct) ⟨us, []⟩ = pure ((["self", "ring", "room"] : List Str).zip us) := by
 intro _ _ _ _ _ _ us hl; obtain ⟨_, _, _, rfl⟩ := len_3 hl; rfl
noncomputable abbrev s_Taker_room_left : Stmt := inClass (top 12) 1
theorem sc_Taker_room_left : FnScope ["self"] ["self"] (defScope s_Taker_room_left) := ⟨rfl, rfl, rfl, by decide +kernel, rfl, by decide +kernel, by decide +kernel⟩
theorem bd_Taker_room_left : ∀ (kV doc pm : Value) (an : Option Addr) (cdv ct : Value) (us : List Value), us.length = (["self"] : List Str).length → bindArgs (PySem.W.fnOf "room_left" "Taker.room_left" (defArgs s_Taker_room_left) (defBody s_Taker_room_left) (defScope s_Taker_room_left) .none kV doc pm an cdv ct) ⟨us, []⟩ = pure ((["self"] : List Str).zip us) := by
 intro _ _ _ _ _ _ us hl; obtain ⟨_, rfl⟩ := len_1 hl; rfl
noncomputable abbrev s_Taker_take : Stmt := inClass (top 12) 2
theorem sc_Taker_take : FnScope ["self", "number", "thing", "steps", "place"] ["self", "number", "thing"] (defScope s_Taker_take) := ⟨rfl, rfl, rfl, by decide +kernel, rfl, by decide +kernel, by decide +kernel⟩
theorem bd_Taker_take : ∀ (kV doc pm : Value) (an : Option Addr) (cdv ct : Value) (us : List Value), us.length = (["self", "number", "thing"] : List Str).length → bindArgs (PySem.W.fnOf "take" "Taker.take" (defArgs s_Taker_take) (defBody s_Taker_take) (defScope s_Taker_take) .none kV doc pm an cdv ct) ⟨us, []⟩ = pure ((["self", "number", "thing"] : List Str).zip us) := by
 intro _ _ _ _ _ _ us hl; obtain ⟨_, _, _, rfl⟩ := len_3 hl; rfl
noncomputable abbrev s_Taker_stand_in_order : Stmt := inClass (top 12) 3
theorem sc_Taker_stand_in_order : FnScope ["self", "things"] ["self"] (defScope s_Taker_stand_in_order) := ⟨rfl, rfl, rfl, by decide +kernel, rfl, by decide +kernel, by decide +kernel⟩
theorem bd_Taker_stand_in_order : ∀ (kV doc pm : Value) (an : Option Addr) (cdv ct : Value) (us : List Value), us.length = (["self"] : List Str).length → bindArgs (PySem.W.fnOf "stand_in_order" "Taker.stand_in_order" (defArgs s_Taker_stand_in_order) (defBody s_Taker_stand_in_order) (defScope s_Taker_stand_in_order) .none kV doc pm an cdv ct) ⟨us, []⟩ = pure ((["self"] : List Str).zip us) := by
 intro _ _ _ _ _ _ us hl; obtain ⟨_, rfl⟩ := len_1 hl; rfl
noncomputable abbrev s_Taker_answer : Stmt := inClass (top 12) 4
theorem sc_Taker_answer : FnScope ["self", "held"] ["self"] (defScope s_Taker_answer) := ⟨rfl, rfl, rfl, by decide +kernel, rfl, by decide +kernel, by decide +kernel⟩
theorem bd_Taker_answer : ∀ (kV doc pm : Value) (an : Option Addr) (cdv ct : Value) (us : List Value), us.length = (["self"] : List Str).length → bindArgs (PySem.W.fnOf "answer" "Taker.answer" (defArgs s_Taker_answer) (defBody s_Taker_answer) (defScope s_Taker_answer) .none kV doc pm an cdv ct) ⟨us, []⟩ = pure ((["self"] : List Str).zip us) := by
 intro _ _ _ _ _ _ us hl; obtain ⟨_, rfl⟩ := len_1 hl; rfl
noncomputable abbrev s_Taker_read : Stmt := inClass (top 12) 5
theorem sc_Taker_read : FnScope ["self", "most", "things", "place"] ["self", "most"] (defScope s_Taker_read) := ⟨rfl, rfl, rfl, by decide +kernel, rfl, by decide +kernel, by decide +kernel⟩
theorem bd_Taker_read : ∀ (kV doc pm : Value) (an : Option Addr) (cdv ct : Value) (us : List Value), us.length = (["self", "most"] : List Str).length → bindArgs (PySem.W.fnOf "read" "Taker.read" (defArgs s_Taker_read) (defBody s_Taker_read) (defScope s_Taker_read) .none kV doc pm an cdv ct) ⟨us, []⟩ = pure ((["self", "most"] : List Str).zip us) := by
 intro _ _ _ _ _ _ us hl; obtain ⟨_, _, rfl⟩ := len_2 hl; rfl
noncomputable abbrev s__law_cell_at : Stmt := top 14
theorem sc__law_cell_at : FnScope ["_law_script", "_law_k"] ["_law_script", "_law_k"] (defScope s__law_cell_at) := ⟨rfl, rfl, rfl, by decide +kernel, rfl, by decide +kernel, by decide +kernel⟩
theorem bd__law_cell_at : ∀ (kV doc pm : Value) (an : Option Addr) (cdv ct : Value) (us : List Value), us.length = (["_law_script", "_law_k"] : List Str).length → bindArgs (PySem.W.fnOf "_law_cell_at" "_law_cell_at" (defArgs s__law_cell_at) (defBody s__law_cell_at) (defScope s__law_cell_at) .none kV doc pm an cdv ct) ⟨us, []⟩ = pure ((["_law_script", "_law_k"] : List Str).zip us) := by
 intro _ _ _ _ _ _ us hl; obtain ⟨_, _, rfl⟩ := len_2 hl; rfl
noncomputable abbrev s__law_mixed : Stmt := top 15
theorem sc__law_mixed : FnScope ["_law_cell", "_law_k", "_law_turn_here", "_law_number", "_law_step"] ["_law_cell", "_law_k", "_law_turn_here"] (defScope s__law_mixed) := ⟨rfl, rfl, rfl, by decide +kernel, rfl, by decide +kernel, by decide +kernel⟩
theorem bd__law_mixed : ∀ (kV doc pm : Value) (an : Option Addr) (cdv ct : Value) (us : List Value), us.length = (["_law_cell", "_law_k", "_law_turn_here"] : List Str).length → bindArgs (PySem.W.fnOf "_law_mixed" "_law_mixed" (defArgs s__law_mixed) (defBody s__law_mixed) (defScope s__law_mixed) .none kV doc pm an cdv ct) ⟨us, []⟩ = pure ((["_law_cell", "_law_k", "_law_turn_here"] : List Str).zip us) := by
 intro _ _ _ _ _ _ us hl; obtain ⟨_, _, _, rfl⟩ := len_3 hl; rfl
noncomputable abbrev s__law_ring : Stmt := top 16
theorem sc__law_ring : FnScope ["_law_cell", "_law_room", "_law_lag", "_law_least"] ["_law_cell", "_law_room", "_law_lag"] (defScope s__law_ring) := ⟨rfl, rfl, rfl, by decide +kernel, rfl, by decide +kernel, by decide +kernel⟩
theorem bd__law_ring : ∀ (kV doc pm : Value) (an : Option Addr) (cdv ct : Value) (us : List Value), us.length = (["_law_cell", "_law_room", "_law_lag"] : List Str).length → bindArgs (PySem.W.fnOf "_law_ring" "_law_ring" (defArgs s__law_ring) (defBody s__law_ring) (defScope s__law_ring) .none kV doc pm an cdv ct) ⟨us, []⟩ = pure ((["_law_cell", "_law_room", "_law_lag"] : List Str).zip us) := by
 intro _ _ _ _ _ _ us hl; obtain ⟨_, _, _, rfl⟩ := len_3 hl; rfl
noncomputable abbrev s__law_put_on : Stmt := top 17
theorem sc__law_put_on : FnScope ["_law_lane", "_law_number", "_law_turn_here", "_law_lag", "_law_what", "_law_rest", "_law_k"] ["_law_lane", "_law_number", "_law_turn_here", "_law_lag", "_law_what"] (defScope s__law_put_on) := ⟨rfl, rfl, rfl, by decide +kernel, rfl, by decide +kernel, by decide +kernel⟩
theorem bd__law_put_on : ∀ (kV doc pm : Value) (an : Option Addr) (cdv ct : Value) (us : List Value), us.length = (["_law_lane", "_law_number", "_law_turn_here", "_law_lag", "_law_what"] : List Str).length → bindArgs (PySem.W.fnOf "_law_put_on" "_law_put_on" (defArgs s__law_put_on) (defBody s__law_put_on) (defScope s__law_put_on) .none kV doc pm an cdv ct) ⟨us, []⟩ = pure ((["_law_lane", "_law_number", "_law_turn_here", "_law_lag", "_law_what"] : List Str).zip us) := by
 intro _ _ _ _ _ _ us hl; obtain ⟨_, _, _, _, _, rfl⟩ := len_5 hl; rfl
noncomputable abbrev s__law_due : Stmt := top 18
theorem sc__law_due : FnScope ["_law_lane", "_law_turn_here", "_law_number", "_law_left", "_law_found", "_law_at"] ["_law_lane", "_law_turn_here", "_law_number"] (defScope s__law_due) := ⟨rfl, rfl, rfl, by decide +kernel, rfl, by decide +kernel, by decide +kernel⟩
theorem bd__law_due : ∀ (kV doc pm : Value) (an : Option Addr) (cdv ct : Value) (us : List Value), us.length = (["_law_lane", "_law_turn_here", "_law_number"] : List Str).length → bindArgs (PySem.W.fnOf "_law_due" "_law_due" (defArgs s__law_due) (defBody s__law_due) (defScope s__law_due) .none kV doc pm an cdv ct) ⟨us, []⟩ = pure ((["_law_lane", "_law_turn_here", "_law_number"] : List Str).zip us) := by
 intro _ _ _ _ _ _ us hl; obtain ⟨_, _, _, rfl⟩ := len_3 hl; rfl
noncomputable abbrev s__law_turn : Stmt := top 19
theorem sc__law_turn : FnScope ["_law_hands", "_law_lanes", "_law_numbers", "_law_turn_here", "_law_ring_here", "_law_lag", "_law_sender", "_law_taker", "_law_things", "_law_given", "_law_place", "_law_answer", "_law_gone"] ["_law_hands", "_law_lanes", "_law_numbers", "_law_turn_here", "_law_ring_here", "_law_lag"] (defScope s__law_turn) := ⟨rfl, rfl, rfl, by decide +kernel, rfl, by decide +kernel, by decide +kernel⟩
theorem bd__law_turn : ∀ (kV doc pm : Value) (an : Option Addr) (cdv ct : Value) (us : List Value), us.length = (["_law_hands", "_law_lanes", "_law_numbers", "_law_turn_here", "_law_ring_here", "_law_lag"] : List Str).length → bindArgs (PySem.W.fnOf "_law_turn" "_law_turn" (defArgs s__law_turn) (defBody s__law_turn) (defScope s__law_turn) .none kV doc pm an cdv ct) ⟨us, []⟩ = pure ((["_law_hands", "_law_lanes", "_law_numbers", "_law_turn_here", "_law_ring_here", "_law_lag"] : List Str).zip us) := by
 intro _ _ _ _ _ _ us hl; obtain ⟨_, _, _, _, _, _, rfl⟩ := len_6 hl; rfl
noncomputable abbrev s__law_alike : Stmt := top 20
theorem sc__law_alike : FnScope ["_law_found", "_law_due_here"] ["_law_found", "_law_due_here"] (defScope s__law_alike) := ⟨rfl, rfl, rfl, by decide +kernel, rfl, by decide +kernel, by decide +kernel⟩
theorem bd__law_alike : ∀ (kV doc pm : Value) (an : Option Addr) (cdv ct : Value) (us : List Value), us.length = (["_law_found", "_law_due_here"] : List Str).length → bindArgs (PySem.W.fnOf "_law_alike" "_law_alike" (defArgs s__law_alike) (defBody s__law_alike) (defScope s__law_alike) .none kV doc pm an cdv ct) ⟨us, []⟩ = pure ((["_law_found", "_law_due_here"] : List Str).zip us) := by
 intro _ _ _ _ _ _ us hl; obtain ⟨_, _, rfl⟩ := len_2 hl; rfl
noncomputable abbrev s_law : Stmt := top 21
theorem sc_law : FnScope ["_law_script", "_law_cell", "_law_room", "_law_lag", "_law_ring_here", "_law_first", "_law_longest", "_law_most", "_law_sender", "_law_hands", "_law_lanes", "_law_turn_here", "_law_k", "_law_number", "_law_step", "_law_numbers", "_law_many", "_law_last"] ["_law_script"] (defScope s_law) := ⟨rfl, rfl, rfl, by decide +kernel, rfl, by decide +kernel, by decide +kernel⟩
theorem bd_law : ∀ (kV doc pm : Value) (an : Option Addr) (cdv ct : Value) (us : List Value), us.length = (["_law_script"] : List Str).length → bindArgs (PySem.W.fnOf "law" "law" (defArgs s_law) (defBody s_law) (defScope s_law) .none kV doc pm an cdv ct) ⟨us, []⟩ = pure ((["_law_script"] : List Str).zip us) := by
 intro _ _ _ _ _ _ us hl; obtain ⟨_, rfl⟩ := len_1 hl; rfl
noncomputable def fl_Meter_1 (v0 : V) : List (Str × V) := [("most", v0)]
theorem fl_Meter_1_len {v0 : V} : (fl_Meter_1 v0).length < 1000 := by show 1 < 1000; decide
theorem fl_Meter_1_new {v0 : V} : putF "most" v0 [] = fl_Meter_1 v0 := by kernel_rfl
noncomputable def fl_Meter_2 (v0 v1 : V) : List (Str × V) := [("most", v0), ("window", v1)]
theorem fl_Meter_2_len {v0 v1 : V} : (fl_Meter_2 v0 v1).length < 1000 := by show 2 < 1000; decide
theorem fl_Meter_2_new {v0 v1 : V} : putF "window" v1 (fl_Meter_1 v0) = fl_Meter_2 v0 v1 := by kernel_rfl
noncomputable def fl_Meter_3 (v0 v1 v2 : V) : List (Str × V) := [("most", v0), ("window", v1), ("knee", v2)]
theorem fl_Meter_3_len {v0 v1 v2 : V} : (fl_Meter_3 v0 v1 v2).length < 1000 := by show 3 < 1000; decide
theorem fl_Meter_3_new {v0 v1 v2 : V} : putF "knee" v2 (fl_Meter_2 v0 v1) = fl_Meter_3 v0 v1 v2 := by kernel_rfl
noncomputable def fl_Meter (v0 v1 v2 v3 : V) : List (Str × V) := [("most", v0), ("window", v1), ("knee", v2), ("counted", v3)]
theorem fl_Meter_len {v0 v1 v2 v3 : V} : (fl_Meter v0 v1 v2 v3).length < 1000 := by show 4 < 1000; decide
theorem fl_Meter_new {v0 v1 v2 v3 : V} : putF "counted" v3 (fl_Meter_3 v0 v1 v2) = fl_Meter v0 v1 v2 v3 := by kernel_rfl
theorem fl_Meter_get_most {v0 v1 v2 v3 : V} : (fl_Meter v0 v1 v2 v3).lookup ("most" : Str) = some v0 := by kernel_rfl
theorem fl_Meter_get_window {v0 v1 v2 v3 : V} : (fl_Meter v0 v1 v2 v3).lookup ("window" : Str) = some v1 := by kernel_rfl
theorem fl_Meter_get_knee {v0 v1 v2 v3 : V} : (fl_Meter v0 v1 v2 v3).lookup ("knee" : Str) = some v2 := by kernel_rfl
theorem fl_Meter_get_counted {v0 v1 v2 v3 : V} : (fl_Meter v0 v1 v2 v3).lookup ("counted" : Str) = some v3 := by kernel_rfl
theorem fl_Meter_put_window {x v0 v1 v2 v3 : V} : putF "window" x (fl_Meter v0 v1 v2 v3) = fl_Meter v0 x v2 v3 := by kernel_rfl
theorem fl_Meter_put_knee {x v0 v1 v2 v3 : V} : putF "knee" x (fl_Meter v0 v1 v2 v3) = fl_Meter v0 v1 x v3 := by kernel_rfl
theorem fl_Meter_put_counted {x v0 v1 v2 v3 : V} : putF "counted" x (fl_Meter v0 v1 v2 v3) = fl_Meter v0 v1 v2 x := by kernel_rfl
theorem fl_Meter_no_known {v0 v1 v2 v3 : V} : (fl_Meter v0 v1 v2 v3).lookup ("known" : Str) = none := by kernel_rfl
theorem fl_Meter_no_know_one {v0 v1 v2 v3 : V} : (fl_Meter v0 v1 v2 v3).lookup ("know_one" : Str) = none := by kernel_rfl
theorem fl_Meter_no_half {v0 v1 v2 v3 : V} : (fl_Meter v0 v1 v2 v3).lookup ("half" : Str) = none := by kernel_rfl
theorem fl_Meter_no_ran_out {v0 v1 v2 v3 : V} : (fl_Meter v0 v1 v2 v3).lookup ("ran_out" : Str) = none := by kernel_rfl
theorem fl_Meter_no_hurried {v0 v1 v2 v3 : V} : (fl_Meter v0 v1 v2 v3).lookup ("hurried" : Str) = none := by kernel_rfl
noncomputable def fl_Ways_1 (v0 : V) : List (Str × V) := [("longest", v0)]
theorem fl_Ways_1_len {v0 : V} : (fl_Ways_1 v0).length < 1000 := by show 1 < 1000; decide
theorem fl_Ways_1_new {v0 : V} : putF "longest" v0 [] = fl_Ways_1 v0 := by kernel_rfl
noncomputable def fl_Ways_2 (v0 v1 : V) : List (Str × V) := [("longest", v0), ("smooth", v1)]
theorem fl_Ways_2_len {v0 v1 : V} : (fl_Ways_2 v0 v1).length < 1000 := by show 2 < 1000; decide
theorem fl_Ways_2_new {v0 v1 : V} : putF "smooth" v1 (fl_Ways_1 v0) = fl_Ways_2 v0 v1 := by kernel_rfl
noncomputable def fl_Ways_3 (v0 v1 v2 : V) : List (Str × V) := [("longest", v0), ("smooth", v1), ("spread", v2)]
theorem fl_Ways_3_len {v0 v1 v2 : V} : (fl_Ways_3 v0 v1 v2).length < 1000 := by show 3 < 1000; decide
theorem fl_Ways_3_new {v0 v1 v2 : V} : putF "spread" v2 (fl_Ways_2 v0 v1) = fl_Ways_3 v0 v1 v2 := by kernel_rfl
noncomputable def fl_Ways (v0 v1 v2 v3 : V) : List (Str × V) := [("longest", v0), ("smooth", v1), ("spread", v2), ("wait", v3)]
theorem fl_Ways_len {v0 v1 v2 v3 : V} : (fl_Ways v0 v1 v2 v3).length < 1000 := by show 4 < 1000; decide
theorem fl_Ways_new {v0 v1 v2 v3 : V} : putF "wait" v3 (fl_Ways_3 v0 v1 v2) = fl_Ways v0 v1 v2 v3 := by kernel_rfl
theorem fl_Ways_get_longest {v0 v1 v2 v3 : V} : (fl_Ways v0 v1 v2 v3).lookup ("longest" : Str) = some v0 := by kernel_rfl
theorem fl_Ways_get_smooth {v0 v1 v2 v3 : V} : (fl_Ways v0 v1 v2 v3).lookup ("smooth" : Str) = some v1 := by kernel_rfl
theorem fl_Ways_get_spread {v0 v1 v2 v3 : V} : (fl_Ways v0 v1 v2 v3).lookup ("spread" : Str) = some v2 := by kernel_rfl
theorem fl_Ways_get_wait {v0 v1 v2 v3 : V} : (fl_Ways v0 v1 v2 v3).lookup ("wait" : Str) = some v3 := by kernel_rfl
theorem fl_Ways_put_smooth {x v0 v1 v2 v3 : V} : putF "smooth" x (fl_Ways v0 v1 v2 v3) = fl_Ways v0 x v2 v3 := by kernel_rfl
theorem fl_Ways_put_spread {x v0 v1 v2 v3 : V} : putF "spread" x (fl_Ways v0 v1 v2 v3) = fl_Ways v0 v1 x v3 := by kernel_rfl
theorem fl_Ways_put_wait {x v0 v1 v2 v3 : V} : putF "wait" x (fl_Ways v0 v1 v2 v3) = fl_Ways v0 v1 v2 x := by kernel_rfl
theorem fl_Ways_no_measured {v0 v1 v2 v3 : V} : (fl_Ways v0 v1 v2 v3).lookup ("measured" : Str) = none := by kernel_rfl
theorem fl_Ways_no_next_spread {v0 v1 v2 v3 : V} : (fl_Ways v0 v1 v2 v3).lookup ("next_spread" : Str) = none := by kernel_rfl
theorem fl_Ways_no_next_smooth {v0 v1 v2 v3 : V} : (fl_Ways v0 v1 v2 v3).lookup ("next_smooth" : Str) = none := by kernel_rfl
theorem fl_Ways_no_least_wait {v0 v1 v2 v3 : V} : (fl_Ways v0 v1 v2 v3).lookup ("least_wait" : Str) = none := by kernel_rfl
theorem fl_Ways_no_ran_out {v0 v1 v2 v3 : V} : (fl_Ways v0 v1 v2 v3).lookup ("ran_out" : Str) = none := by kernel_rfl
noncomputable def fl_Sender_1 (v0 : V) : List (Str × V) := [("ring", v0)]
theorem fl_Sender_1_len {v0 : V} : (fl_Sender_1 v0).length < 1000 := by show 1 < 1000; decide
theorem fl_Sender_1_new {v0 : V} : putF "ring" v0 [] = fl_Sender_1 v0 := by kernel_rfl
noncomputable def fl_Sender_2 (v0 v1 : V) : List (Str × V) := [("ring", v0), ("ways", v1)]
theorem fl_Sender_2_len {v0 v1 : V} : (fl_Sender_2 v0 v1).length < 1000 := by show 2 < 1000; decide
theorem fl_Sender_2_new {v0 v1 : V} : putF "ways" v1 (fl_Sender_1 v0) = fl_Sender_2 v0 v1 := by kernel_rfl
noncomputable def fl_Sender_3 (v0 v1 v2 : V) : List (Str × V) := [("ring", v0), ("ways", v1), ("meter", v2)]
theorem fl_Sender_3_len {v0 v1 v2 : V} : (fl_Sender_3 v0 v1 v2).length < 1000 := by show 3 < 1000; decide
theorem fl_Sender_3_new {v0 v1 v2 : V} : putF "meter" v2 (fl_Sender_2 v0 v1) = fl_Sender_3 v0 v1 v2 := by kernel_rfl
noncomputable def fl_Sender_4 (v0 v1 v2 v3 : V) : List (Str × V) := [("ring", v0), ("ways", v1), ("meter", v2), ("things", v3)]
theorem fl_Sender_4_len {v0 v1 v2 v3 : V} : (fl_Sender_4 v0 v1 v2 v3).length < 1000 := by show 4 < 1000; decide
theorem fl_Sender_4_new {v0 v1 v2 v3 : V} : putF "things" v3 (fl_Sender_3 v0 v1 v2) = fl_Sender_4 v0 v1 v2 v3 := by kernel_rfl
noncomputable def fl_Sender_5 (v0 v1 v2 v3 v4 : V) : List (Str × V) := [("ring", v0), ("ways", v1), ("meter", v2), ("things", v3), ("base", v4)]
theorem fl_Sender_5_len {v0 v1 v2 v3 v4 : V} : (fl_Sender_5 v0 v1 v2 v3 v4).length < 1000 := by show 5 < 1000; decide
theorem fl_Sender_5_new {v0 v1 v2 v3 v4 : V} : putF "base" v4 (fl_Sender_4 v0 v1 v2 v3) = fl_Sender_5 v0 v1 v2 v3 v4 := by kernel_rfl
noncomputable def fl_Sender_6 (v0 v1 v2 v3 v4 v5 : V) : List (Str × V) := [("ring", v0), ("ways", v1), ("meter", v2), ("things", v3), ("base", v4), ("top", v5)]
theorem fl_Sender_6_len {v0 v1 v2 v3 v4 v5 : V} : (fl_Sender_6 v0 v1 v2 v3 v4 v5).length < 1000 := by show 6 < 1000; decide
theorem fl_Sender_6_new {v0 v1 v2 v3 v4 v5 : V} : putF "top" v5 (fl_Sender_5 v0 v1 v2 v3 v4) = fl_Sender_6 v0 v1 v2 v3 v4 v5 := by kernel_rfl
noncomputable def fl_Sender_7 (v0 v1 v2 v3 v4 v5 v6 : V) : List (Str × V) := [("ring", v0), ("ways", v1), ("meter", v2), ("things", v3), ("base", v4), ("top", v5), ("edge", v6)]
theorem fl_Sender_7_len {v0 v1 v2 v3 v4 v5 v6 : V} : (fl_Sender_7 v0 v1 v2 v3 v4 v5 v6).length < 1000 := by show 7 < 1000; decide
theorem fl_Sender_7_new {v0 v1 v2 v3 v4 v5 v6 : V} : putF "edge" v6 (fl_Sender_6 v0 v1 v2 v3 v4 v5) = fl_Sender_7 v0 v1 v2 v3 v4 v5 v6 := by kernel_rfl
noncomputable def fl_Sender_8 (v0 v1 v2 v3 v4 v5 v6 v7 : V) : List (Str × V) := [("ring", v0), ("ways", v1), ("meter", v2), ("things", v3), ("base", v4), ("top", v5), ("edge", v6), ("clock", v7)]
theorem fl_Sender_8_len {v0 v1 v2 v3 v4 v5 v6 v7 : V} : (fl_Sender_8 v0 v1 v2 v3 v4 v5 v6 v7).length < 1000 := by show 8 < 1000; decide
theorem fl_Sender_8_new {v0 v1 v2 v3 v4 v5 v6 v7 : V} : putF "clock" v7 (fl_Sender_7 v0 v1 v2 v3 v4 v5 v6) = fl_Sender_8 v0 v1 v2 v3 v4 v5 v6 v7 := by kernel_rfl
noncomputable def fl_Sender_9 (v0 v1 v2 v3 v4 v5 v6 v7 v8 : V) : List (Str × V) := [("ring", v0), ("ways", v1), ("meter", v2), ("things", v3), ("base", v4), ("top", v5), ("edge", v6), ("clock", v7), ("base_hurried", v8)]
theorem fl_Sender_9_len {v0 v1 v2 v3 v4 v5 v6 v7 v8 : V} : (fl_Sender_9 v0 v1 v2 v3 v4 v5 v6 v7 v8).length < 1000 := by show 9 < 1000; decide
theorem fl_Sender_9_new {v0 v1 v2 v3 v4 v5 v6 v7 v8 : V} : putF "base_hurried" v8 (fl_Sender_8 v0 v1 v2 v3 v4 v5 v6 v7) = fl_Sender_9 v0 v1 v2 v3 v4 v5 v6 v7 v8 := by kernel_rfl
noncomputable def fl_Sender_10 (v0 v1 v2 v3 v4 v5 v6 v7 v8 v9 : V) : List (Str × V) := [("ring", v0), ("ways", v1), ("meter", v2), ("things", v3), ("base", v4), ("top", v5), ("edge", v6), ("clock", v7), ("base_hurried", v8), ("known_places", v9)]
theorem fl_Sender_10_len {v0 v1 v2 v3 v4 v5 v6 v7 v8 v9 : V} : (fl_Sender_10 v0 v1 v2 v3 v4 v5 v6 v7 v8 v9).length < 1000 := by show 10 < 1000; decide
theorem fl_Sender_10_new {v0 v1 v2 v3 v4 v5 v6 v7 v8 v9 : V} : putF "known_places" v9 (fl_Sender_9 v0 v1 v2 v3 v4 v5 v6 v7 v8) = fl_Sender_10 v0 v1 v2 v3 v4 v5 v6 v7 v8 v9 := by kernel_rfl
noncomputable def fl_Sender_11 (v0 v1 v2 v3 v4 v5 v6 v7 v8 v9 v10 : V) : List (Str × V) := [("ring", v0), ("ways", v1), ("meter", v2), ("things", v3), ("base", v4), ("top", v5), ("edge", v6), ("clock", v7), ("base_hurried", v8), ("known_places", v9), ("first_turns", v10)]
theorem fl_Sender_11_len {v0 v1 v2 v3 v4 v5 v6 v7 v8 v9 v10 : V} : (fl_Sender_11 v0 v1 v2 v3 v4 v5 v6 v7 v8 v9 v10).length < 1000 := by show 11 < 1000; decide
theorem fl_Sender_11_new {v0 v1 v2 v3 v4 v5 v6 v7 v8 v9 v10 : V} : putF "first_turns" v10 (fl_Sender_10 v0 v1 v2 v3 v4 v5 v6 v7 v8 v9) = fl_Sender_11 v0 v1 v2 v3 v4 v5 v6 v7 v8 v9 v10 := by kernel_rfl
noncomputable def fl_Sender (v0 v1 v2 v3 v4 v5 v6 v7 v8 v9 v10 v11 : V) : List (Str × V) := [("ring", v0), ("ways", v1), ("meter", v2), ("things", v3), ("base", v4), ("top", v5), ("edge", v6), ("clock", v7), ("base_hurried", v8), ("known_places", v9), ("first_turns", v10), ("gone_again", v11)]
theorem fl_Sender_len {v0 v1 v2 v3 v4 v5 v6 v7 v8 v9 v10 v11 : V} : (fl_Sender v0 v1 v2 v3 v4 v5 v6 v7 v8 v9 v10 v11).length < 1000 := by show 12 < 1000; decide
theorem fl_Sender_new {v0 v1 v2 v3 v4 v5 v6 v7 v8 v9 v10 v11 : V} : putF "gone_again" v11 (fl_Sender_11 v0 v1 v2 v3 v4 v5 v6 v7 v8 v9 v10) = fl_Sender v0 v1 v2 v3 v4 v5 v6 v7 v8 v9 v10 v11 := by kernel_rfl
theorem fl_Sender_get_ring {v0 v1 v2 v3 v4 v5 v6 v7 v8 v9 v10 v11 : V} : (fl_Sender v0 v1 v2 v3 v4 v5 v6 v7 v8 v9 v10 v11).lookup ("ring" : Str) = some v0 := by kernel_rfl
theorem fl_Sender_get_ways {v0 v1 v2 v3 v4 v5 v6 v7 v8 v9 v10 v11 : V} : (fl_Sender v0 v1 v2 v3 v4 v5 v6 v7 v8 v9 v10 v11).lookup ("ways" : Str) = some v1 := by kernel_rfl
theorem fl_Sender_get_meter {v0 v1 v2 v3 v4 v5 v6 v7 v8 v9 v10 v11 : V} : (fl_Sender v0 v1 v2 v3 v4 v5 v6 v7 v8 v9 v10 v11).lookup ("meter" : Str) = some v2 := by kernel_rfl
theorem fl_Sender_get_things {v0 v1 v2 v3 v4 v5 v6 v7 v8 v9 v10 v11 : V} : (fl_Sender v0 v1 v2 v3 v4 v5 v6 v7 v8 v9 v10 v11).lookup ("things" : Str) = some v3 := by kernel_rfl
theorem fl_Sender_get_base {v0 v1 v2 v3 v4 v5 v6 v7 v8 v9 v10 v11 : V} : (fl_Sender v0 v1 v2 v3 v4 v5 v6 v7 v8 v9 v10 v11).lookup ("base" : Str) = some v4 := by kernel_rfl
theorem fl_Sender_get_top {v0 v1 v2 v3 v4 v5 v6 v7 v8 v9 v10 v11 : V} : (fl_Sender v0 v1 v2 v3 v4 v5 v6 v7 v8 v9 v10 v11).lookup ("top" : Str) = some v5 := by kernel_rfl
theorem fl_Sender_get_edge {v0 v1 v2 v3 v4 v5 v6 v7 v8 v9 v10 v11 : V} : (fl_Sender v0 v1 v2 v3 v4 v5 v6 v7 v8 v9 v10 v11).lookup ("edge" : Str) = some v6 := by kernel_rfl
theorem fl_Sender_get_clock {v0 v1 v2 v3 v4 v5 v6 v7 v8 v9 v10 v11 : V} : (fl_Sender v0 v1 v2 v3 v4 v5 v6 v7 v8 v9 v10 v11).lookup ("clock" : Str) = some v7 := by kernel_rfl
theorem fl_Sender_get_base_hurried {v0 v1 v2 v3 v4 v5 v6 v7 v8 v9 v10 v11 : V} : (fl_Sender v0 v1 v2 v3 v4 v5 v6 v7 v8 v9 v10 v11).lookup ("base_hurried" : Str) = some v8 := by kernel_rfl
theorem fl_Sender_get_known_places {v0 v1 v2 v3 v4 v5 v6 v7 v8 v9 v10 v11 : V} : (fl_Sender v0 v1 v2 v3 v4 v5 v6 v7 v8 v9 v10 v11).lookup ("known_places" : Str) = some v9 := by kernel_rfl
theorem fl_Sender_get_first_turns {v0 v1 v2 v3 v4 v5 v6 v7 v8 v9 v10 v11 : V} : (fl_Sender v0 v1 v2 v3 v4 v5 v6 v7 v8 v9 v10 v11).lookup ("first_turns" : Str) = some v10 := by kernel_rfl
theorem fl_Sender_get_gone_again {v0 v1 v2 v3 v4 v5 v6 v7 v8 v9 v10 v11 : V} : (fl_Sender v0 v1 v2 v3 v4 v5 v6 v7 v8 v9 v10 v11).lookup ("gone_again" : Str) = some v11 := by kernel_rfl
theorem fl_Sender_put_base {x v0 v1 v2 v3 v4 v5 v6 v7 v8 v9 v10 v11 : V} : putF "base" x (fl_Sender v0 v1 v2 v3 v4 v5 v6 v7 v8 v9 v10 v11) = fl_Sender v0 v1 v2 v3 x v5 v6 v7 v8 v9 v10 v11 := by kernel_rfl
theorem fl_Sender_put_top {x v0 v1 v2 v3 v4 v5 v6 v7 v8 v9 v10 v11 : V} : putF "top" x (fl_Sender v0 v1 v2 v3 v4 v5 v6 v7 v8 v9 v10 v11) = fl_Sender v0 v1 v2 v3 v4 x v6 v7 v8 v9 v10 v11 := by kernel_rfl
theorem fl_Sender_put_edge {x v0 v1 v2 v3 v4 v5 v6 v7 v8 v9 v10 v11 : V} : putF "edge" x (fl_Sender v0 v1 v2 v3 v4 v5 v6 v7 v8 v9 v10 v11) = fl_Sender v0 v1 v2 v3 v4 v5 x v7 v8 v9 v10 v11 := by kernel_rfl
theorem fl_Sender_put_clock {x v0 v1 v2 v3 v4 v5 v6 v7 v8 v9 v10 v11 : V} : putF "clock" x (fl_Sender v0 v1 v2 v3 v4 v5 v6 v7 v8 v9 v10 v11) = fl_Sender v0 v1 v2 v3 v4 v5 v6 x v8 v9 v10 v11 := by kernel_rfl
theorem fl_Sender_put_base_hurried {x v0 v1 v2 v3 v4 v5 v6 v7 v8 v9 v10 v11 : V} : putF "base_hurried" x (fl_Sender v0 v1 v2 v3 v4 v5 v6 v7 v8 v9 v10 v11) = fl_Sender v0 v1 v2 v3 v4 v5 v6 v7 x v9 v10 v11 := by kernel_rfl
theorem fl_Sender_no_put {v0 v1 v2 v3 v4 v5 v6 v7 v8 v9 v10 v11 : V} : (fl_Sender v0 v1 v2 v3 v4 v5 v6 v7 v8 v9 v10 v11).lookup ("put" : Str) = none := by kernel_rfl
theorem fl_Sender_no_many {v0 v1 v2 v3 v4 v5 v6 v7 v8 v9 v10 v11 : V} : (fl_Sender v0 v1 v2 v3 v4 v5 v6 v7 v8 v9 v10 v11).lookup ("many" : Str) = none := by kernel_rfl
theorem fl_Sender_no_heard {v0 v1 v2 v3 v4 v5 v6 v7 v8 v9 v10 v11 : V} : (fl_Sender v0 v1 v2 v3 v4 v5 v6 v7 v8 v9 v10 v11).lookup ("heard" : Str) = none := by kernel_rfl
theorem fl_Sender_no_grow_base {v0 v1 v2 v3 v4 v5 v6 v7 v8 v9 v10 v11 : V} : (fl_Sender v0 v1 v2 v3 v4 v5 v6 v7 v8 v9 v10 v11).lookup ("grow_base" : Str) = none := by kernel_rfl
theorem fl_Sender_no_note_held {v0 v1 v2 v3 v4 v5 v6 v7 v8 v9 v10 v11 : V} : (fl_Sender v0 v1 v2 v3 v4 v5 v6 v7 v8 v9 v10 v11).lookup ("note_held" : Str) = none := by kernel_rfl
theorem fl_Sender_no_newly_known {v0 v1 v2 v3 v4 v5 v6 v7 v8 v9 v10 v11 : V} : (fl_Sender v0 v1 v2 v3 v4 v5 v6 v7 v8 v9 v10 v11).lookup ("newly_known" : Str) = none := by kernel_rfl
theorem fl_Sender_no_known_above_base {v0 v1 v2 v3 v4 v5 v6 v7 v8 v9 v10 v11 : V} : (fl_Sender v0 v1 v2 v3 v4 v5 v6 v7 v8 v9 v10 v11).lookup ("known_above_base" : Str) = none := by kernel_rfl
theorem fl_Sender_no_under_way {v0 v1 v2 v3 v4 v5 v6 v7 v8 v9 v10 v11 : V} : (fl_Sender v0 v1 v2 v3 v4 v5 v6 v7 v8 v9 v10 v11).lookup ("under_way" : Str) = none := by kernel_rfl
theorem fl_Sender_no_thing_waits {v0 v1 v2 v3 v4 v5 v6 v7 v8 v9 v10 v11 : V} : (fl_Sender v0 v1 v2 v3 v4 v5 v6 v7 v8 v9 v10 v11).lookup ("thing_waits" : Str) = none := by kernel_rfl
theorem fl_Sender_no_clock_is_out {v0 v1 v2 v3 v4 v5 v6 v7 v8 v9 v10 v11 : V} : (fl_Sender v0 v1 v2 v3 v4 v5 v6 v7 v8 v9 v10 v11).lookup ("clock_is_out" : Str) = none := by kernel_rfl
theorem fl_Sender_no_hurry_is_due {v0 v1 v2 v3 v4 v5 v6 v7 v8 v9 v10 v11 : V} : (fl_Sender v0 v1 v2 v3 v4 v5 v6 v7 v8 v9 v10 v11).lookup ("hurry_is_due" : Str) = none := by kernel_rfl
theorem fl_Sender_no_new_may_go {v0 v1 v2 v3 v4 v5 v6 v7 v8 v9 v10 v11 : V} : (fl_Sender v0 v1 v2 v3 v4 v5 v6 v7 v8 v9 v10 v11).lookup ("new_may_go" : Str) = none := by kernel_rfl
theorem fl_Sender_no_go {v0 v1 v2 v3 v4 v5 v6 v7 v8 v9 v10 v11 : V} : (fl_Sender v0 v1 v2 v3 v4 v5 v6 v7 v8 v9 v10 v11).lookup ("go" : Str) = none := by kernel_rfl
theorem fl_Sender_no_set_clock {v0 v1 v2 v3 v4 v5 v6 v7 v8 v9 v10 v11 : V} : (fl_Sender v0 v1 v2 v3 v4 v5 v6 v7 v8 v9 v10 v11).lookup ("set_clock" : Str) = none := by kernel_rfl
theorem fl_Sender_no_go_again {v0 v1 v2 v3 v4 v5 v6 v7 v8 v9 v10 v11 : V} : (fl_Sender v0 v1 v2 v3 v4 v5 v6 v7 v8 v9 v10 v11).lookup ("go_again" : Str) = none := by kernel_rfl
theorem fl_Sender_no_go_new {v0 v1 v2 v3 v4 v5 v6 v7 v8 v9 v10 v11 : V} : (fl_Sender v0 v1 v2 v3 v4 v5 v6 v7 v8 v9 v10 v11).lookup ("go_new" : Str) = none := by kernel_rfl
theorem fl_Sender_no_ask_for_room {v0 v1 v2 v3 v4 v5 v6 v7 v8 v9 v10 v11 : V} : (fl_Sender v0 v1 v2 v3 v4 v5 v6 v7 v8 v9 v10 v11).lookup ("ask_for_room" : Str) = none := by kernel_rfl
noncomputable def fl_Taker_2 (v0 v1 : V) : List (Str × V) := [("ring", v0), ("room", v1)]
theorem fl_Taker_2_len {v0 v1 : V} : (fl_Taker_2 v0 v1).length < 1000 := by show 2 < 1000; decide
theorem fl_Taker_2_new {v0 v1 : V} : putF "room" v1 (fl_Sender_1 v0) = fl_Taker_2 v0 v1 := by kernel_rfl
noncomputable def fl_Taker_3 (v0 v1 v2 : V) : List (Str × V) := [("ring", v0), ("room", v1), ("got", v2)]
theorem fl_Taker_3_len {v0 v1 v2 : V} : (fl_Taker_3 v0 v1 v2).length < 1000 := by show 3 < 1000; decide
theorem fl_Taker_3_new {v0 v1 v2 : V} : putF "got" v2 (fl_Taker_2 v0 v1) = fl_Taker_3 v0 v1 v2 := by kernel_rfl
noncomputable def fl_Taker_4 (v0 v1 v2 v3 : V) : List (Str × V) := [("ring", v0), ("room", v1), ("got", v2), ("out", v3)]
theorem fl_Taker_4_len {v0 v1 v2 v3 : V} : (fl_Taker_4 v0 v1 v2 v3).length < 1000 := by show 4 < 1000; decide
theorem fl_Taker_4_new {v0 v1 v2 v3 : V} : putF "out" v3 (fl_Taker_3 v0 v1 v2) = fl_Taker_4 v0 v1 v2 v3 := by kernel_rfl
noncomputable def fl_Taker (v0 v1 v2 v3 v4 : V) : List (Str × V) := [("ring", v0), ("room", v1), ("got", v2), ("out", v3), ("kept", v4)]
theorem fl_Taker_len {v0 v1 v2 v3 v4 : V} : (fl_Taker v0 v1 v2 v3 v4).length < 1000 := by show 5 < 1000; decide
theorem fl_Taker_new {v0 v1 v2 v3 v4 : V} : putF "kept" v4 (fl_Taker_4 v0 v1 v2 v3) = fl_Taker v0 v1 v2 v3 v4 := by kernel_rfl
theorem fl_Taker_get_ring {v0 v1 v2 v3 v4 : V} : (fl_Taker v0 v1 v2 v3 v4).lookup ("ring" : Str) = some v0 := by kernel_rfl
theorem fl_Taker_get_room {v0 v1 v2 v3 v4 : V} : (fl_Taker v0 v1 v2 v3 v4).lookup ("room" : Str) = some v1 := by kernel_rfl
theorem fl_Taker_get_got {v0 v1 v2 v3 v4 : V} : (fl_Taker v0 v1 v2 v3 v4).lookup ("got" : Str) = some v2 := by kernel_rfl
theorem fl_Taker_get_out {v0 v1 v2 v3 v4 : V} : (fl_Taker v0 v1 v2 v3 v4).lookup ("out" : Str) = some v3 := by kernel_rfl
theorem fl_Taker_get_kept {v0 v1 v2 v3 v4 : V} : (fl_Taker v0 v1 v2 v3 v4).lookup ("kept" : Str) = some v4 := by kernel_rfl
theorem fl_Taker_put_got {x v0 v1 v2 v3 v4 : V} : putF "got" x (fl_Taker v0 v1 v2 v3 v4) = fl_Taker v0 v1 x v3 v4 := by kernel_rfl
theorem fl_Taker_put_out {x v0 v1 v2 v3 v4 : V} : putF "out" x (fl_Taker v0 v1 v2 v3 v4) = fl_Taker v0 v1 v2 x v4 := by kernel_rfl
theorem fl_Taker_no_room_left {v0 v1 v2 v3 v4 : V} : (fl_Taker v0 v1 v2 v3 v4).lookup ("room_left" : Str) = none := by kernel_rfl
theorem fl_Taker_no_take {v0 v1 v2 v3 v4 : V} : (fl_Taker v0 v1 v2 v3 v4).lookup ("take" : Str) = none := by kernel_rfl
theorem fl_Taker_no_stand_in_order {v0 v1 v2 v3 v4 : V} : (fl_Taker v0 v1 v2 v3 v4).lookup ("stand_in_order" : Str) = none := by kernel_rfl
theorem fl_Taker_no_answer {v0 v1 v2 v3 v4 : V} : (fl_Taker v0 v1 v2 v3 v4).lookup ("answer" : Str) = none := by kernel_rfl
theorem fl_Taker_no_read {v0 v1 v2 v3 v4 : V} : (fl_Taker v0 v1 v2 v3 v4).lookup ("read" : Str) = none := by kernel_rfl
structure Txt (K : PySem.W.Frag) (mg : Str → Option Value) (C_Meter C_Ways C_Sender C_Taker : Addr) : Prop where
 k_Meter : KlsAt K mg "Meter" C_Meter
 n_Meter_most : NoAttr K C_Meter "most"
 n_Meter_window : NoAttr K C_Meter "window"
 n_Meter_knee : NoAttr K C_Meter "knee"
 n_Meter_counted : NoAttr K C_Meter "counted"
 k_Ways : KlsAt K mg "Ways" C_Ways
 n_Ways_longest : NoAttr K C_Ways "longest"
 n_Ways_smooth : NoAttr K C_Ways "smooth"
 n_Ways_spread : NoAttr K C_Ways "spread"
 n_Ways_wait : NoAttr K C_Ways "wait"
 k_Sender : KlsAt K mg "Sender" C_Sender
 n_Sender_ring : NoAttr K C_Sender "ring"
 n_Sender_ways : NoAttr K C_Sender "ways"
 n_Sender_meter : NoAttr K C_Sender "meter"
 n_Sender_things : NoAttr K C_Sender "things"
 n_Sender_base : NoAttr K C_Sender "base"
 n_Sender_top : NoAttr K C_Sender "top"
 n_Sender_edge : NoAttr K C_Sender "edge"
 n_Sender_clock : NoAttr K C_Sender "clock"
 n_Sender_base_hurried : NoAttr K C_Sender "base_hurried"
 n_Sender_known_places : NoAttr K C_Sender "known_places"
 n_Sender_first_turns : NoAttr K C_Sender "first_turns"
 n_Sender_gone_again : NoAttr K C_Sender "gone_again"
 k_Taker : KlsAt K mg "Taker" C_Taker
 n_Taker_ring : NoAttr K C_Taker "ring"
 n_Taker_room : NoAttr K C_Taker "room"
 n_Taker_got : NoAttr K C_Taker "got"
 n_Taker_out : NoAttr K C_Taker "out"
 n_Taker_kept : NoAttr K C_Taker "kept"
 d_Meter___init__ : MethAt K C_Meter "__init__" "Meter.__init__" s_Meter___init__
 d_Meter_known : MethAt K C_Meter "known" "Meter.known" s_Meter_known
 d_Meter_know_one : MethAt K C_Meter "know_one" "Meter.know_one" s_Meter_know_one
 d_Meter_half : MethAt K C_Meter "half" "Meter.half" s_Meter_half
 d_Meter_ran_out : MethAt K C_Meter "ran_out" "Meter.ran_out" s_Meter_ran_out
 d_Meter_hurried : MethAt K C_Meter "hurried" "Meter.hurried" s_Meter_hurried
 d_ahead : DefAt K mg "ahead" s_ahead
 d_lowest : DefAt K mg "lowest" s_lowest
 d_Ways___init__ : MethAt K C_Ways "__init__" "Ways.__init__" s_Ways___init__
 d_Ways_measured : MethAt K C_Ways "measured" "Ways.measured" s_Ways_measured
 d_Ways_next_spread : MethAt K C_Ways "next_spread" "Ways.next_spread" s_Ways_next_spread
 d_Ways_next_smooth : MethAt K C_Ways "next_smooth" "Ways.next_smooth" s_Ways_next_smooth
 d_Ways_least_wait : MethAt K C_Ways "least_wait" "Ways.least_wait" s_Ways_least_wait
 d_Ways_ran_out : MethAt K C_Ways "ran_out" "Ways.ran_out" s_Ways_ran_out
 d_Sender___init__ : MethAt K C_Sender "__init__" "Sender.__init__" s_Sender___init__
 d_Sender_put : MethAt K C_Sender "put" "Sender.put" s_Sender_put
 d_Sender_many : MethAt K C_Sender "many" "Sender.many" s_Sender_many
 d_Sender_heard : MethAt K C_Sender "heard" "Sender.heard" s_Sender_heard
 d_Sender_grow_base : MethAt K C_Sender "grow_base" "Sender.grow_base" s_Sender_grow_base
 d_Sender_note_held : MethAt K C_Sender "note_held" "Sender.note_held" s_Sender_note_held
 d_Sender_newly_known : MethAt K C_Sender "newly_known" "Sender.newly_known" s_Sender_newly_known
 d_Sender_known_above_base : MethAt K C_Sender "known_above_base" "Sender.known_above_base" s_Sender_known_above_base
 d_Sender_under_way : MethAt K C_Sender "under_way" "Sender.under_way" s_Sender_under_way
 d_Sender_thing_waits : MethAt K C_Sender "thing_waits" "Sender.thing_waits" s_Sender_thing_waits
 d_Sender_clock_is_out : MethAt K C_Sender "clock_is_out" "Sender.clock_is_out" s_Sender_clock_is_out
 d_Sender_hurry_is_due : MethAt K C_Sender "hurry_is_due" "Sender.hurry_is_due" s_Sender_hurry_is_due
 d_Sender_new_may_go : MethAt K C_Sender "new_may_go" "Sender.new_may_go" s_Sender_new_may_go
 d_Sender_go : MethAt K C_Sender "go" "Sender.go" s_Sender_go
 d_Sender_set_clock : MethAt K C_Sender "set_clock" "Sender.set_clock" s_Sender_set_clock
 d_Sender_go_again : MethAt K C_Sender "go_again" "Sender.go_again" s_Sender_go_again
 d_Sender_go_new : MethAt K C_Sender "go_new" "Sender.go_new" s_Sender_go_new
 d_Sender_ask_for_room : MethAt K C_Sender "ask_for_room" "Sender.ask_for_room" s_Sender_ask_for_room
 d_Taker___init__ : MethAt K C_Taker "__init__" "Taker.__init__" s_Taker___init__
 d_Taker_room_left : MethAt K C_Taker "room_left" "Taker.room_left" s_Taker_room_left
 d_Taker_take : MethAt K C_Taker "take" "Taker.take" s_Taker_take
 d_Taker_stand_in_order : MethAt K C_Taker "stand_in_order" "Taker.stand_in_order" s_Taker_stand_in_order
 d_Taker_answer : MethAt K C_Taker "answer" "Taker.answer" s_Taker_answer
 d_Taker_read : MethAt K C_Taker "read" "Taker.read" s_Taker_read
 d__law_cell_at : DefAt K mg "_law_cell_at" s__law_cell_at
 d__law_mixed : DefAt K mg "_law_mixed" s__law_mixed
 d__law_ring : DefAt K mg "_law_ring" s__law_ring
 d__law_put_on : DefAt K mg "_law_put_on" s__law_put_on
 d__law_due : DefAt K mg "_law_due" s__law_due
 d__law_turn : DefAt K mg "_law_turn" s__law_turn
 d__law_alike : DefAt K mg "_law_alike" s__law_alike
 d_law : DefAt K mg "law" s_law
 b_abs : mg "abs" = none
 b_isinstance : mg "isinstance" = none
 b_len : mg "len" = none
 b_list : mg "list" = none
 b_max : mg "max" = none
 b_min : mg "min" = none
 b_range : mg "range" = none
 b_str : mg "str" = none
 b_tuple : mg "tuple" = none
 c_WAIT_LEAST : CstAt mg "WAIT_LEAST" (.int 2)
 c_KNOWN_TO_HURRY : CstAt mg "KNOWN_TO_HURRY" (.int 2)
noncomputable section
open PySem W
abbrev Ob := Obj
abbrev Pm := Params
abbrev q (x : String) (k : Nat) : Value := .str (Str.ofString x) k
abbrev tp (x : List Value) : Obj := ⟨.type "tuple", none, .seq x.toArray, #[]⟩
abbrev fm (n m : String) (t : Stmt) := FuncData.mk (Str.ofString n) (Str.ofString m) (L2.defArgs t) (.stmts (L2.defBody t)) (L2.defScope t)
abbrev cd (n : String) (a : Nat) (m : String) (b c : Nat) (l d e f g : Int) (r : Nat) (o : Bool) (k : Int) (s : Nat) (v w x y : Value) (i : Int) (z : Nat) : Ob := ⟨.type "code",none,.fields #[q n a,q m b,q "/claim/cut.py" c,.int l 0,.int d 0,.int e 0,.int f 0,.int g 0,.ref r,.bool o,.int k 0,.ref s,v,w,x,y,.int i 0,.int l 0,q "/claim/cut.py" z],#[]⟩
abbrev f0 (n m : String) (t : Stmt) : Ob := ⟨.none,none,.func (fm n m t 0 [] .none .none .none .none none .none .none 0),#[]⟩
abbrev f1 (n m : String) (t : Stmt) (c : Nat) (v : Value) (r : Nat) : Ob := ⟨.type "function",none,.func (fm n m t c [] .none .none .none v none (.ref r) .none 0),#[]⟩
abbrev den (P : Params) (x : String) (k : Nat) (v : Value) : DictEntry := DictEntry.mk (PyData.keyHash P (Str.ofString x)) (Value.str (Str.ofString x) k) v
def up : List Ob → BT → Nat → BT
 | [], t, _ => t
 | o :: r, t, n => up r (t.ins n o) (n+1)
def ch : List (Nat × Ob) → BT → BT
 | [], t => t
 | p :: r, t => ch r (t.ins p.1 p.2)
def mdl (P : Pm) : List DictEntry := [den P "__doc__" 166 .none,den P "__package__" 167 .none,den P "__loader__" 168 (.builtin "__main__.__loader__#opaque"),den P "__spec__" 169 .none,den P "__annotations__" 170 (.ref 6),den P "__builtins__" 171 (.ref 4),den P "__file__" 173 (q "/claim/cut.py" 172),den P "__cached__" 174 .none,den P "Meter" 257 (.ref 66),den P "ahead" 268 (.ref 77),den P "WAIT_LEAST" 272 (.int 2 271),den P "lowest" 281 (.ref 84),den P "Ways" 355 (.ref 136),den P "KNOWN_TO_HURRY" 359 (.int 2 358),den P "Sender" 543 (.ref 277),den P "Taker" 621 (.ref 331),den P "_law_cell_at" 631 (.ref 342),den P "_law_mixed" 642 (.ref 349),den P "_law_ring" 652 (.ref 356),den P "_law_put_on" 665 (.ref 363),den P "_law_due" 677 (.ref 370),den P "_law_turn" 696 (.ref 377),den P "_law_alike" 704 (.ref 384),den P "law" 710 (.ref 389)]
abbrev md (P : Pm) (v : Value) (k n : Nat) : Ob := ⟨.type "dict",none,.dict ⟨den P "__name__" 165 v :: (mdl P).take k⟩ n,#[]⟩
def ltl : List Value := [.int 80 0,.int 4 0,.ref 153,.int 94 0,.int 4 0,.ref 160,.int 97 0,.int 4 0,.ref 167,.int 100 0,.int 4 0,.ref 174,.int 103 0,.int 4 0,.ref 181,.int 118 0,.int 4 0,.ref 188,.int 123 0,.int 4 0,.ref 193,.int 126 0,.int 4 0,.ref 198,.int 132 0,.int 4 0,.ref 203,.int 135 0,.int 4 0,.ref 210,.int 138 0,.int 4 0,.ref 217,.int 141 0,.int 4 0,.ref 224,.int 144 0,.int 4 0,.ref 231,.int 147 0,.int 4 0,.ref 238,.int 150 0,.int 4 0,.ref 245,.int 164 0,.int 4 0,.ref 252,.int 167 0,.int 4 0,.ref 259,.int 173 0,.int 4 0,.ref 266,.int 181 0,.int 4 0,.ref 273]
abbrev lt (k : Nat) : Ob := ⟨.none,none,.fields ⟨ltl.take k⟩,#[]⟩
abbrev sO (x : String) : Str := Str.ofString x
def o11:Ob:=tp []
def o12:Ob:=⟨.none,none,.fields #[],#[]⟩
def o13:Ob:=cd "<module>" 182 "<module>" 183 184 1 0 0 0 0 11 false 181 12 .none .none .none .none 185 186
def o14:Ob:=⟨.type "frame",none,.plain,#[some (.ref 13),some (.ref 3),some (.ref 3),none,some (q "__main__" 164),none,some (.ref 0)]⟩
def o15(P:Pm):Ob:=md P (q "slowroad.ways" 269) 12 13
def o16:Ob:=⟨.none,none,.fields #[.int 2 0,.int 0 0,.ref 20,.int 38 0,.int 0 0,.ref 76,.int 42 0,.int 0 0,.ref 83],#[]⟩
def o18:Ob:=⟨.type "builtin_function_or_method",none,.fields #[.builtin "type.__prepare__",.type "type"],#[]⟩
def o19(P:Pm):Ob:=⟨.type "dict",none,.dict #[den P "__module__" 196 (q "slowroad.meter" 187),den P "__qualname__" 198 (q "Meter" 197),den P "__firstlineno__" 200 (.int 2 199),den P "__init__" 208 (.ref 28),den P "known" 217 (.ref 35),den P "know_one" 224 (.ref 42),den P "half" 231 (.ref 49),den P "ran_out" 238 (.ref 56),den P "hurried" 245 (.ref 63),den P "__static_attributes__" 250 (.ref 64)] 10,#[]⟩
def o21:Ob:=⟨.none,none,.fields #[.int 4 0,.int 4 0,.ref 27,.int 10 0,.int 4 0,.ref 34,.int 14 0,.int 4 0,.ref 41,.int 25 0,.int 4 0,.ref 48,.int 28 0,.int 4 0,.ref 55,.int 33 0,.int 4 0,.ref 62],#[]⟩
def o22:Ob:=cd "Meter" 191 "Meter" 192 193 2 0 0 0 0 18 false 181 19 .none .none .none .none 194 195
def o23:Ob:=⟨.type "frame",none,.plain,#[some (.ref 20),some (.ref 3),some (.ref 17),none,some (q "slowroad.meter" 187),none,some (.ref 0)]⟩
def o26:Ob:=tp [q "self" 204,q "most" 205]
def o28:Ob:=f0 "__init__" "Meter.__init__" (inClass (top 1) 0)
def o29:Ob:=cd "__init__" 201 "Meter.__init__" 202 203 4 2 0 0 3 22 true 181 23 .none (.ref 24) (.ref 25) (.ref 26) 206 207
def o30:Ob:=f1 "__init__" "Meter.__init__" (inClass (top 1) 0) 3 (q "slowroad.meter" 187) 27
def o33:Ob:=tp [q "self" 212,q "many" 213,q "piece" 214]
def o35:Ob:=f0 "known" "Meter.known" (inClass (top 1) 1)
def o36:Ob:=cd "known" 209 "Meter.known" 210 211 10 2 0 0 3 29 true 181 30 .none (.ref 31) (.ref 32) (.ref 33) 215 216
def o37:Ob:=f1 "known" "Meter.known" (inClass (top 1) 1) 3 (q "slowroad.meter" 187) 34
def o40:Ob:=tp [q "self" 221]
def o42:Ob:=f0 "know_one" "Meter.know_one" (inClass (top 1) 2)
def o43:Ob:=cd "know_one" 218 "Meter.know_one" 219 220 14 1 0 0 3 36 true 181 37 .none (.ref 38) (.ref 39) (.ref 40) 222 223
def o44:Ob:=f1 "know_one" "Meter.know_one" (inClass (top 1) 2) 3 (q "slowroad.meter" 187) 41
def o47:Ob:=tp [q "self" 228]
def o49:Ob:=f0 "half" "Meter.half" (inClass (top 1) 3)
def o50:Ob:=cd "half" 225 "Meter.half" 226 227 25 1 0 0 3 43 true 181 44 .none (.ref 45) (.ref 46) (.ref 47) 229 230
def o51:Ob:=f1 "half" "Meter.half" (inClass (top 1) 3) 3 (q "slowroad.meter" 187) 48
def o54:Ob:=tp [q "self" 235]
def o56:Ob:=f0 "ran_out" "Meter.ran_out" (inClass (top 1) 4)
def o57:Ob:=cd "ran_out" 232 "Meter.ran_out" 233 234 28 1 0 0 3 50 true 181 51 .none (.ref 52) (.ref 53) (.ref 54) 236 237
def o58:Ob:=f1 "ran_out" "Meter.ran_out" (inClass (top 1) 4) 3 (q "slowroad.meter" 187) 55
def o61:Ob:=tp [q "self" 242]
def o63:Ob:=f0 "hurried" "Meter.hurried" (inClass (top 1) 5)
def o64:Ob:=cd "hurried" 239 "Meter.hurried" 240 241 33 1 0 0 3 57 true 181 58 .none (.ref 59) (.ref 60) (.ref 61) 243 244
def o65:Ob:=f1 "hurried" "Meter.hurried" (inClass (top 1) 5) 3 (q "slowroad.meter" 187) 62
def o66:Ob:=tp [q "counted" 246,q "knee" 247,q "most" 248,q "window" 249]
def o67(P:Pm):Ob:=⟨.type "dict",none,.dict #[den P "__module__" 196 (q "slowroad.meter" 187),den P "__firstlineno__" 200 (.int 2 199),den P "__init__" 208 (.ref 28),den P "known" 217 (.ref 35),den P "know_one" 224 (.ref 42),den P "half" 231 (.ref 49),den P "ran_out" 238 (.ref 56),den P "hurried" 245 (.ref 63),den P "__static_attributes__" 250 (.ref 64),den P "__dict__" 252 (.ref 67),den P "__weakref__" 254 (.ref 68),den P "__doc__" 255 .none] 4,#[]⟩
def o68:Ob:=⟨.type "type",none,.cls (.mk (sO "Meter") [.type "object"] [.ref 66,.type "object"] 65 (sO "Meter") true [] [] false none false),#[none,none,some (q "Meter" 189),some (q "Meter" 197),some (.builtin "object.__new__"),some (.bool true)]⟩
def o69:Ob:=⟨.type "getset_descriptor",none,.fields #[q "__dict__" 251,.ref 66,.builtin "function.__dict__",.builtin "function.__dict__#set"],#[]⟩
def o70:Ob:=⟨.type "getset_descriptor",none,.fields #[q "__weakref__" 253,.ref 66,.builtin "ExceptionGroup.__weakref__",.none],#[]⟩
def o71:Ob:=⟨.type "super",none,.fields #[.ref 66,.ref 66,.ref 66],#[]⟩
def o72:Ob:=⟨.type "builtin_function_or_method",none,.fields #[.builtin "object.__init_subclass__",.ref 66],#[]⟩
def o75:Ob:=tp [q "ring" 263,q "one" 264,q "other" 265]
def o77:Ob:=f0 "ahead" "ahead" (top 3)
def o78:Ob:=cd "ahead" 260 "ahead" 261 262 38 3 0 0 3 71 true 181 72 .none (.ref 73) (.ref 74) (.ref 75) 266 267
def o79:Ob:=f1 "ahead" "ahead" (top 3) 3 (q "slowroad.rings" 258) 76
def o82:Ob:=tp [q "top" 276,q "bottom" 277,q "shared" 278]
def o84:Ob:=f0 "lowest" "lowest" (top 6)
def o85:Ob:=cd "lowest" 273 "lowest" 274 275 42 2 0 0 3 78 true 181 79 .none (.ref 80) (.ref 81) (.ref 82) 279 280
def o86:Ob:=f1 "lowest" "lowest" (top 6) 3 (q "slowroad.ways" 269) 83
def o87(P:Pm):Ob:=md P (q "slowroad.sender" 356) 14 15
def o88:Ob:=⟨.none,none,.fields #[.int 2 0,.int 0 0,.ref 20,.int 38 0,.int 0 0,.ref 76,.int 42 0,.int 0 0,.ref 83,.int 45 0,.int 0 0,.ref 90],#[]⟩
def o91(P:Pm):Ob:=⟨.type "dict",none,.dict #[den P "__module__" 289 (q "slowroad.ways" 269),den P "__qualname__" 291 (q "Ways" 290),den P "__firstlineno__" 293 (.int 45 292),den P "__init__" 302 (.ref 98),den P "measured" 310 (.ref 105),den P "next_spread" 320 (.ref 112),den P "next_smooth" 328 (.ref 119),den P "least_wait" 336 (.ref 126),den P "ran_out" 343 (.ref 133),den P "__static_attributes__" 348 (.ref 134)] 10,#[]⟩
def o93:Ob:=⟨.none,none,.fields #[.int 47 0,.int 4 0,.ref 97,.int 53 0,.int 4 0,.ref 104,.int 62 0,.int 4 0,.ref 111,.int 67 0,.int 4 0,.ref 118,.int 70 0,.int 4 0,.ref 125,.int 74 0,.int 4 0,.ref 132],#[]⟩
def o94:Ob:=cd "Ways" 284 "Ways" 285 286 45 0 0 0 0 88 false 181 89 .none .none .none .none 287 288
def o95:Ob:=⟨.type "frame",none,.plain,#[some (.ref 90),some (.ref 3),some (.ref 87),none,some (q "slowroad.ways" 269),none,some (.ref 0)]⟩
def o98:Ob:=tp [q "self" 297,q "first" 298,q "longest" 299]
def o100:Ob:=f0 "__init__" "Ways.__init__" (inClass (top 7) 0)
def o101:Ob:=cd "__init__" 294 "Ways.__init__" 295 296 47 3 0 0 3 92 true 181 93 .none (.ref 94) (.ref 95) (.ref 96) 300 301
def o102:Ob:=f1 "__init__" "Ways.__init__" (inClass (top 7) 0) 3 (q "slowroad.ways" 269) 97
def o105:Ob:=tp [q "self" 306,q "m" 307]
def o107:Ob:=f0 "measured" "Ways.measured" (inClass (top 7) 1)
def o108:Ob:=cd "measured" 303 "Ways.measured" 304 305 53 2 0 0 3 99 true 181 100 .none (.ref 101) (.ref 102) (.ref 103) 308 309
def o109:Ob:=f1 "measured" "Ways.measured" (inClass (top 7) 1) 3 (q "slowroad.ways" 269) 104
def o112:Ob:=tp [q "self" 314,q "m" 315,q "bottoms" 316,q "away" 317]
def o114:Ob:=f0 "next_spread" "Ways.next_spread" (inClass (top 7) 2)
def o115:Ob:=cd "next_spread" 311 "Ways.next_spread" 312 313 62 2 0 0 3 106 true 181 107 .none (.ref 108) (.ref 109) (.ref 110) 318 319
def o116:Ob:=f1 "next_spread" "Ways.next_spread" (inClass (top 7) 2) 3 (q "slowroad.ways" 269) 111
def o119:Ob:=tp [q "self" 324,q "m" 325]
def o121:Ob:=f0 "next_smooth" "Ways.next_smooth" (inClass (top 7) 3)
def o122:Ob:=cd "next_smooth" 321 "Ways.next_smooth" 322 323 67 2 0 0 3 113 true 181 114 .none (.ref 115) (.ref 116) (.ref 117) 326 327
def o123:Ob:=f1 "next_smooth" "Ways.next_smooth" (inClass (top 7) 3) 3 (q "slowroad.ways" 269) 118
def o126:Ob:=tp [q "self" 332,q "top" 333]
def o128:Ob:=f0 "least_wait" "Ways.least_wait" (inClass (top 7) 4)
def o129:Ob:=cd "least_wait" 329 "Ways.least_wait" 330 331 70 1 0 0 3 120 true 181 121 .none (.ref 122) (.ref 123) (.ref 124) 334 335
def o130:Ob:=f1 "least_wait" "Ways.least_wait" (inClass (top 7) 4) 3 (q "slowroad.ways" 269) 125
def o133:Ob:=tp [q "self" 340]
def o135:Ob:=f0 "ran_out" "Ways.ran_out" (inClass (top 7) 5)
def o136:Ob:=cd "ran_out" 337 "Ways.ran_out" 338 339 74 1 0 0 3 127 true 181 128 .none (.ref 129) (.ref 130) (.ref 131) 341 342
def o137:Ob:=f1 "ran_out" "Ways.ran_out" (inClass (top 7) 5) 3 (q "slowroad.ways" 269) 132
def o138:Ob:=tp [q "longest" 344,q "smooth" 345,q "spread" 346,q "wait" 347]
def o139(P:Pm):Ob:=⟨.type "dict",none,.dict #[den P "__module__" 289 (q "slowroad.ways" 269),den P "__firstlineno__" 293 (.int 45 292),den P "__init__" 302 (.ref 98),den P "measured" 310 (.ref 105),den P "next_spread" 320 (.ref 112),den P "next_smooth" 328 (.ref 119),den P "least_wait" 336 (.ref 126),den P "ran_out" 343 (.ref 133),den P "__static_attributes__" 348 (.ref 134),den P "__dict__" 350 (.ref 137),den P "__weakref__" 352 (.ref 138),den P "__doc__" 353 .none] 4,#[]⟩
def o140:Ob:=⟨.type "type",none,.cls (.mk (sO "Ways") [.type "object"] [.ref 136,.type "object"] 135 (sO "Ways") true [] [] false none false),#[none,none,some (q "Ways" 282),some (q "Ways" 290),some (.builtin "object.__new__"),some (.bool true)]⟩
def o141:Ob:=⟨.type "getset_descriptor",none,.fields #[q "__dict__" 349,.ref 136,.builtin "function.__dict__",.builtin "function.__dict__#set"],#[]⟩
def o142:Ob:=⟨.type "getset_descriptor",none,.fields #[q "__weakref__" 351,.ref 136,.builtin "ExceptionGroup.__weakref__",.none],#[]⟩
def o143:Ob:=⟨.type "super",none,.fields #[.ref 136,.ref 136,.ref 136],#[]⟩
def o144:Ob:=⟨.type "builtin_function_or_method",none,.fields #[.builtin "object.__init_subclass__",.ref 136],#[]⟩
def o145(P:Pm):Ob:=md P (q "slowroad.sender" 356) 15 16
def o146:Ob:=⟨.none,none,.fields #[.int 2 0,.int 0 0,.ref 20,.int 38 0,.int 0 0,.ref 76,.int 42 0,.int 0 0,.ref 83,.int 45 0,.int 0 0,.ref 90,.int 78 0,.int 0 0,.ref 146],#[]⟩
def o149(P:Pm):Ob:=⟨.type "dict",none,.dict #[den P "__module__" 367 (q "slowroad.sender" 356),den P "__qualname__" 369 (q "Sender" 368),den P "__firstlineno__" 371 (.int 78 370),den P "__init__" 382 (.ref 154),den P "put" 390 (.ref 161),den P "many" 397 (.ref 168),den P "thing" 405 (.ref 175),den P "heard" 419 (.ref 182),den P "grow_base" 428 (.ref 189),den P "note_held" 434 (.ref 194),den P "newly_known" 440 (.ref 199),den P "known_above_base" 446 (.ref 204),den P "under_way" 453 (.ref 211),den P "thing_waits" 460 (.ref 218),den P "clock_is_out" 468 (.ref 225),den P "hurry_is_due" 475 (.ref 232),den P "new_may_go" 482 (.ref 239),den P "go" 490 (.ref 246),den P "set_clock" 498 (.ref 253),den P "go_again" 506 (.ref 260),den P "go_new" 515 (.ref 267),den P "ask_for_room" 523 (.ref 274),den P "__static_attributes__" 536 (.ref 275)] 23,#[]⟩
def o151:Ob:=lt 57
def o152:Ob:=cd "Sender" 362 "Sender" 363 364 78 0 0 0 0 144 false 181 145 .none .none .none .none 365 366
def o153:Ob:=⟨.type "frame",none,.plain,#[some (.ref 146),some (.ref 3),some (.ref 143),none,some (q "slowroad.sender" 356),none,some (.ref 0)]⟩
def o156:Ob:=tp [q "self" 375,q "ring" 376,q "first" 377,q "longest" 378,q "most" 379]
def o158:Ob:=f0 "__init__" "Sender.__init__" (inClass (top 10) 0)
def o159:Ob:=cd "__init__" 372 "Sender.__init__" 373 374 80 5 0 0 3 148 true 181 149 .none (.ref 150) (.ref 151) (.ref 152) 380 381
def o160:Ob:=f1 "__init__" "Sender.__init__" (inClass (top 10) 0) 3 (q "slowroad.sender" 356) 153
def o163:Ob:=tp [q "self" 386,q "thing" 387]
def o165:Ob:=f0 "put" "Sender.put" (inClass (top 10) 1)
def o166:Ob:=cd "put" 383 "Sender.put" 384 385 94 2 0 0 3 155 true 181 156 .none (.ref 157) (.ref 158) (.ref 159) 388 389
def o167:Ob:=f1 "put" "Sender.put" (inClass (top 10) 1) 3 (q "slowroad.sender" 356) 160
def o170:Ob:=tp [q "self" 394]
def o172:Ob:=f0 "many" "Sender.many" (inClass (top 10) 2)
def o173:Ob:=cd "many" 391 "Sender.many" 392 393 97 1 0 0 3 162 true 181 163 .none (.ref 164) (.ref 165) (.ref 166) 395 396
def o174:Ob:=f1 "many" "Sender.many" (inClass (top 10) 2) 3 (q "slowroad.sender" 356) 167
def o177:Ob:=tp [q "self" 401,q "place" 402]
def o179:Ob:=f0 "thing" "Sender.thing" (inClass (top 10) 3)
def o180:Ob:=cd "thing" 398 "Sender.thing" 399 400 100 2 0 0 3 169 true 181 170 .none (.ref 171) (.ref 172) (.ref 173) 403 404
def o181:Ob:=f1 "thing" "Sender.thing" (inClass (top 10) 3) 3 (q "slowroad.sender" 356) 174
def o184:Ob:=tp [q "self" 409,q "number" 410,q "room" 411,q "held" 412,q "turn" 413,q "steps" 414,q "fresh" 415,q "place" 416]
def o186:Ob:=f0 "heard" "Sender.heard" (inClass (top 10) 4)
def o187:Ob:=cd "heard" 406 "Sender.heard" 407 408 103 5 0 0 3 176 true 181 177 .none (.ref 178) (.ref 179) (.ref 180) 417 418
def o188:Ob:=f1 "heard" "Sender.heard" (inClass (top 10) 4) 3 (q "slowroad.sender" 356) 181
def o191:Ob:=tp [q "self" 423,q "steps" 424,q "low" 425]
def o193:Ob:=f0 "grow_base" "Sender.grow_base" (inClass (top 10) 5)
def o194:Ob:=cd "grow_base" 420 "Sender.grow_base" 421 422 118 2 0 0 3 183 true 181 184 .none (.ref 185) (.ref 186) (.ref 187) 426 427
def o195:Ob:=f1 "grow_base" "Sender.grow_base" (inClass (top 10) 5) 3 (q "slowroad.sender" 356) 188
def o198:Ob:=f0 "note_held" "Sender.note_held" (inClass (top 10) 6)
def o199:Ob:=cd "note_held" 429 "Sender.note_held" 430 431 123 2 0 0 3 190 true 181 191 .none .none .none (.ref 192) 432 433
def o200:Ob:=f1 "note_held" "Sender.note_held" (inClass (top 10) 6) 3 (q "slowroad.sender" 356) 193
def o203:Ob:=f0 "newly_known" "Sender.newly_known" (inClass (top 10) 7)
def o204:Ob:=cd "newly_known" 435 "Sender.newly_known" 436 437 126 2 0 0 3 195 true 181 196 .none .none .none (.ref 197) 438 439
def o205:Ob:=f1 "newly_known" "Sender.newly_known" (inClass (top 10) 7) 3 (q "slowroad.sender" 356) 198
def o208:Ob:=f0 "known_above_base" "Sender.known_above_base" (inClass (top 10) 8)
def o209:Ob:=cd "known_above_base" 441 "Sender.known_above_base" 442 443 132 1 0 0 3 200 true 181 201 .none .none .none (.ref 202) 444 445
def o210:Ob:=f1 "known_above_base" "Sender.known_above_base" (inClass (top 10) 8) 3 (q "slowroad.sender" 356) 203
def o213:Ob:=tp [q "self" 450]
def o215:Ob:=f0 "under_way" "Sender.under_way" (inClass (top 10) 9)
def o216:Ob:=cd "under_way" 447 "Sender.under_way" 448 449 135 1 0 0 3 205 true 181 206 .none (.ref 207) (.ref 208) (.ref 209) 451 452
def o217:Ob:=f1 "under_way" "Sender.under_way" (inClass (top 10) 9) 3 (q "slowroad.sender" 356) 210
def o220:Ob:=tp [q "self" 457]
def o222:Ob:=f0 "thing_waits" "Sender.thing_waits" (inClass (top 10) 10)
def o223:Ob:=cd "thing_waits" 454 "Sender.thing_waits" 455 456 138 1 0 0 3 212 true 181 213 .none (.ref 214) (.ref 215) (.ref 216) 458 459
def o224:Ob:=f1 "thing_waits" "Sender.thing_waits" (inClass (top 10) 10) 3 (q "slowroad.sender" 356) 217
def o227:Ob:=tp [q "self" 464,q "turn" 465]
def o229:Ob:=f0 "clock_is_out" "Sender.clock_is_out" (inClass (top 10) 11)
def o230:Ob:=cd "clock_is_out" 461 "Sender.clock_is_out" 462 463 141 2 0 0 3 219 true 181 220 .none (.ref 221) (.ref 222) (.ref 223) 466 467
def o231:Ob:=f1 "clock_is_out" "Sender.clock_is_out" (inClass (top 10) 11) 3 (q "slowroad.sender" 356) 224
def o234:Ob:=tp [q "self" 472]
def o236:Ob:=f0 "hurry_is_due" "Sender.hurry_is_due" (inClass (top 10) 12)
def o237:Ob:=cd "hurry_is_due" 469 "Sender.hurry_is_due" 470 471 144 1 0 0 3 226 true 181 227 .none (.ref 228) (.ref 229) (.ref 230) 473 474
def o238:Ob:=f1 "hurry_is_due" "Sender.hurry_is_due" (inClass (top 10) 12) 3 (q "slowroad.sender" 356) 231
def o241:Ob:=tp [q "self" 479]
def o243:Ob:=f0 "new_may_go" "Sender.new_may_go" (inClass (top 10) 13)
def o244:Ob:=cd "new_may_go" 476 "Sender.new_may_go" 477 478 147 1 0 0 3 233 true 181 234 .none (.ref 235) (.ref 236) (.ref 237) 480 481
def o245:Ob:=f1 "new_may_go" "Sender.new_may_go" (inClass (top 10) 13) 3 (q "slowroad.sender" 356) 238
def o248:Ob:=tp [q "self" 486,q "turn" 487]
def o250:Ob:=f0 "go" "Sender.go" (inClass (top 10) 14)
def o251:Ob:=cd "go" 483 "Sender.go" 484 485 150 2 0 0 3 240 true 181 241 .none (.ref 242) (.ref 243) (.ref 244) 488 489
def o252:Ob:=f1 "go" "Sender.go" (inClass (top 10) 14) 3 (q "slowroad.sender" 356) 245
def o255:Ob:=tp [q "self" 494,q "turn" 495]
def o257:Ob:=f0 "set_clock" "Sender.set_clock" (inClass (top 10) 15)
def o258:Ob:=cd "set_clock" 491 "Sender.set_clock" 492 493 164 2 0 0 3 247 true 181 248 .none (.ref 249) (.ref 250) (.ref 251) 496 497
def o259:Ob:=f1 "set_clock" "Sender.set_clock" (inClass (top 10) 15) 3 (q "slowroad.sender" 356) 252
def o262:Ob:=tp [q "self" 502,q "turn" 503]
def o264:Ob:=f0 "go_again" "Sender.go_again" (inClass (top 10) 16)
def o265:Ob:=cd "go_again" 499 "Sender.go_again" 500 501 167 2 0 0 3 254 true 181 255 .none (.ref 256) (.ref 257) (.ref 258) 504 505
def o266:Ob:=f1 "go_again" "Sender.go_again" (inClass (top 10) 16) 3 (q "slowroad.sender" 356) 259
def o269:Ob:=tp [q "self" 510,q "turn" 511,q "place" 512]
def o271:Ob:=f0 "go_new" "Sender.go_new" (inClass (top 10) 17)
def o272:Ob:=cd "go_new" 507 "Sender.go_new" 508 509 173 2 0 0 3 261 true 181 262 .none (.ref 263) (.ref 264) (.ref 265) 513 514
def o273:Ob:=f1 "go_new" "Sender.go_new" (inClass (top 10) 17) 3 (q "slowroad.sender" 356) 266
def o276:Ob:=tp [q "self" 519,q "turn" 520]
def o278:Ob:=f0 "ask_for_room" "Sender.ask_for_room" (inClass (top 10) 18)
def o279:Ob:=cd "ask_for_room" 516 "Sender.ask_for_room" 517 518 181 2 0 0 3 268 true 181 269 .none (.ref 270) (.ref 271) (.ref 272) 521 522
def o280:Ob:=f1 "ask_for_room" "Sender.ask_for_room" (inClass (top 10) 18) 3 (q "slowroad.sender" 356) 273
def o281:Ob:=tp [q "base" 524,q "base_hurried" 525,q "clock" 526,q "edge" 527,q "first_turns" 528,q "gone_again" 529,q "known_places" 530,q "meter" 531,q "ring" 532,q "things" 533,q "top" 534,q "ways" 535]
def o282(P:Pm):Ob:=⟨.type "dict",none,.dict #[den P "__module__" 367 (q "slowroad.sender" 356),den P "__firstlineno__" 371 (.int 78 370),den P "__init__" 382 (.ref 154),den P "put" 390 (.ref 161),den P "many" 397 (.ref 168),den P "thing" 405 (.ref 175),den P "heard" 419 (.ref 182),den P "grow_base" 428 (.ref 189),den P "note_held" 434 (.ref 194),den P "newly_known" 440 (.ref 199),den P "known_above_base" 446 (.ref 204),den P "under_way" 453 (.ref 211),den P "thing_waits" 460 (.ref 218),den P "clock_is_out" 468 (.ref 225),den P "hurry_is_due" 475 (.ref 232),den P "new_may_go" 482 (.ref 239),den P "go" 490 (.ref 246),den P "set_clock" 498 (.ref 253),den P "go_again" 506 (.ref 260),den P "go_new" 515 (.ref 267),den P "ask_for_room" 523 (.ref 274),den P "__static_attributes__" 536 (.ref 275),den P "__dict__" 538 (.ref 278),den P "__weakref__" 540 (.ref 279),den P "__doc__" 541 .none] 4,#[]⟩
def o283:Ob:=⟨.type "type",none,.cls (.mk (sO "Sender") [.type "object"] [.ref 277,.type "object"] 276 (sO "Sender") true [] [] false none false),#[none,none,some (q "Sender" 360),some (q "Sender" 368),some (.builtin "object.__new__"),some (.bool true)]⟩
def o284:Ob:=⟨.type "getset_descriptor",none,.fields #[q "__dict__" 537,.ref 277,.builtin "function.__dict__",.builtin "function.__dict__#set"],#[]⟩
def o285:Ob:=⟨.type "getset_descriptor",none,.fields #[q "__weakref__" 539,.ref 277,.builtin "ExceptionGroup.__weakref__",.none],#[]⟩
def o286:Ob:=⟨.type "super",none,.fields #[.ref 277,.ref 277,.ref 277],#[]⟩
def o287:Ob:=⟨.type "builtin_function_or_method",none,.fields #[.builtin "object.__init_subclass__",.ref 277],#[]⟩
def o288(P:Pm):Ob:=⟨.type "dict",none,.dict #[den P "__name__" 165 (q "law_slowroad_k59_whole_all_comes" 622),den P "__doc__" 166 .none,den P "__package__" 167 .none,den P "__loader__" 168 (.builtin "__main__.__loader__#opaque"),den P "__spec__" 169 .none,den P "__annotations__" 170 (.ref 6),den P "__builtins__" 171 (.ref 4),den P "__file__" 173 (q "/claim/cut.py" 172),den P "__cached__" 174 .none,den P "Meter" 257 (.ref 66),den P "ahead" 268 (.ref 77),den P "WAIT_LEAST" 272 (.int 2 271),den P "lowest" 281 (.ref 84),den P "Ways" 355 (.ref 136),den P "KNOWN_TO_HURRY" 359 (.int 2 358),den P "Sender" 543 (.ref 277),den P "Taker" 621 (.ref 331),den P "_law_cell_at" 631 (.ref 342),den P "_law_mixed" 642 (.ref 349),den P "_law_ring" 652 (.ref 356),den P "_law_put_on" 665 (.ref 363),den P "_law_due" 677 (.ref 370),den P "_law_turn" 696 (.ref 377),den P "_law_alike" 704 (.ref 384),den P "law" 710 (.ref 389)] 25,#[]⟩
def o289:Ob:=⟨.none,none,.fields #[.int 2 0,.int 0 0,.ref 20,.int 38 0,.int 0 0,.ref 76,.int 42 0,.int 0 0,.ref 83,.int 45 0,.int 0 0,.ref 90,.int 78 0,.int 0 0,.ref 146,.int 191 0,.int 0 0,.ref 287,.int 230 0,.int 0 0,.ref 341,.int 234 0,.int 0 0,.ref 348,.int 241 0,.int 0 0,.ref 355,.int 250 0,.int 0 0,.ref 362,.int 255 0,.int 0 0,.ref 369,.int 263 0,.int 0 0,.ref 376,.int 274 0,.int 0 0,.ref 383,.int 276 0,.int 0 0,.ref 388],#[]⟩
def o292(P:Pm):Ob:=⟨.type "dict",none,.dict #[den P "__module__" 553 (q "slowroad.taker" 544),den P "__qualname__" 555 (q "Taker" 554),den P "__firstlineno__" 557 (.int 191 556),den P "__init__" 566 (.ref 295),den P "room_left" 573 (.ref 302),den P "take" 584 (.ref 309),den P "stand_in_order" 592 (.ref 316),den P "answer" 598 (.ref 321),den P "read" 608 (.ref 328),den P "__static_attributes__" 614 (.ref 329)] 10,#[]⟩
def o294:Ob:=⟨.none,none,.fields #[.int 193 0,.int 4 0,.ref 294,.int 200 0,.int 4 0,.ref 301,.int 203 0,.int 4 0,.ref 308,.int 212 0,.int 4 0,.ref 315,.int 219 0,.int 4 0,.ref 320,.int 223 0,.int 4 0,.ref 327],#[]⟩
def o295:Ob:=cd "Taker" 548 "Taker" 549 550 191 0 0 0 0 285 false 181 286 .none .none .none .none 551 552
def o296:Ob:=⟨.type "frame",none,.plain,#[some (.ref 287),some (.ref 3),some (.ref 284),none,some (q "slowroad.taker" 544),none,some (.ref 0)]⟩
def o299:Ob:=tp [q "self" 561,q "ring" 562,q "room" 563]
def o301:Ob:=f0 "__init__" "Taker.__init__" (inClass (top 12) 0)
def o302:Ob:=cd "__init__" 558 "Taker.__init__" 559 560 193 3 0 0 3 289 true 181 290 .none (.ref 291) (.ref 292) (.ref 293) 564 565
def o303:Ob:=f1 "__init__" "Taker.__init__" (inClass (top 12) 0) 3 (q "slowroad.taker" 544) 294
def o306:Ob:=tp [q "self" 570]
def o308:Ob:=f0 "room_left" "Taker.room_left" (inClass (top 12) 1)
def o309:Ob:=cd "room_left" 567 "Taker.room_left" 568 569 200 1 0 0 3 296 true 181 297 .none (.ref 298) (.ref 299) (.ref 300) 571 572
def o310:Ob:=f1 "room_left" "Taker.room_left" (inClass (top 12) 1) 3 (q "slowroad.taker" 544) 301
def o313:Ob:=tp [q "self" 577,q "number" 578,q "thing" 579,q "steps" 580,q "place" 581]
def o315:Ob:=f0 "take" "Taker.take" (inClass (top 12) 2)
def o316:Ob:=cd "take" 574 "Taker.take" 575 576 203 3 0 0 3 303 true 181 304 .none (.ref 305) (.ref 306) (.ref 307) 582 583
def o317:Ob:=f1 "take" "Taker.take" (inClass (top 12) 2) 3 (q "slowroad.taker" 544) 308
def o320:Ob:=tp [q "self" 588,q "things" 589]
def o322:Ob:=f0 "stand_in_order" "Taker.stand_in_order" (inClass (top 12) 3)
def o323:Ob:=cd "stand_in_order" 585 "Taker.stand_in_order" 586 587 212 1 0 0 3 310 true 181 311 .none (.ref 312) (.ref 313) (.ref 314) 590 591
def o324:Ob:=f1 "stand_in_order" "Taker.stand_in_order" (inClass (top 12) 3) 3 (q "slowroad.taker" 544) 315
def o327:Ob:=f0 "answer" "Taker.answer" (inClass (top 12) 4)
def o328:Ob:=cd "answer" 593 "Taker.answer" 594 595 219 1 0 0 3 317 true 181 318 .none .none .none (.ref 319) 596 597
def o329:Ob:=f1 "answer" "Taker.answer" (inClass (top 12) 4) 3 (q "slowroad.taker" 544) 320
def o332:Ob:=tp [q "self" 602,q "most" 603,q "things" 604,q "place" 605]
def o334:Ob:=f0 "read" "Taker.read" (inClass (top 12) 5)
def o335:Ob:=cd "read" 599 "Taker.read" 600 601 223 2 0 0 3 322 true 181 323 .none (.ref 324) (.ref 325) (.ref 326) 606 607
def o336:Ob:=f1 "read" "Taker.read" (inClass (top 12) 5) 3 (q "slowroad.taker" 544) 327
def o337:Ob:=tp [q "got" 609,q "kept" 610,q "out" 611,q "ring" 612,q "room" 613]
def o338(P:Pm):Ob:=⟨.type "dict",none,.dict #[den P "__module__" 553 (q "slowroad.taker" 544),den P "__firstlineno__" 557 (.int 191 556),den P "__init__" 566 (.ref 295),den P "room_left" 573 (.ref 302),den P "take" 584 (.ref 309),den P "stand_in_order" 592 (.ref 316),den P "answer" 598 (.ref 321),den P "read" 608 (.ref 328),den P "__static_attributes__" 614 (.ref 329),den P "__dict__" 616 (.ref 332),den P "__weakref__" 618 (.ref 333),den P "__doc__" 619 .none] 4,#[]⟩
def o339:Ob:=⟨.type "type",none,.cls (.mk (sO "Taker") [.type "object"] [.ref 331,.type "object"] 330 (sO "Taker") true [] [] false none false),#[none,none,some (q "Taker" 546),some (q "Taker" 554),some (.builtin "object.__new__"),some (.bool true)]⟩
def o340:Ob:=⟨.type "getset_descriptor",none,.fields #[q "__dict__" 615,.ref 331,.builtin "function.__dict__",.builtin "function.__dict__#set"],#[]⟩
def o341:Ob:=⟨.type "getset_descriptor",none,.fields #[q "__weakref__" 617,.ref 331,.builtin "ExceptionGroup.__weakref__",.none],#[]⟩
def o342:Ob:=⟨.type "super",none,.fields #[.ref 331,.ref 331,.ref 331],#[]⟩
def o343:Ob:=⟨.type "builtin_function_or_method",none,.fields #[.builtin "object.__init_subclass__",.ref 331],#[]⟩
def o346:Ob:=tp [q "_law_script" 627,q "_law_k" 628]
def o348:Ob:=f0 "_law_cell_at" "_law_cell_at" (top 14)
def o349:Ob:=cd "_law_cell_at" 624 "_law_cell_at" 625 626 230 2 0 0 3 336 true 181 337 .none (.ref 338) (.ref 339) (.ref 340) 629 630
def o350:Ob:=f1 "_law_cell_at" "_law_cell_at" (top 14) 3 (q "law_slowroad_k59_whole_all_comes" 622) 341
def o353:Ob:=tp [q "_law_cell" 635,q "_law_k" 636,q "_law_turn_here" 637,q "_law_number" 638,q "_law_step" 639]
def o355:Ob:=f0 "_law_mixed" "_law_mixed" (top 15)
def o356:Ob:=cd "_law_mixed" 632 "_law_mixed" 633 634 234 3 0 0 3 343 true 181 344 .none (.ref 345) (.ref 346) (.ref 347) 640 641
def o357:Ob:=f1 "_law_mixed" "_law_mixed" (top 15) 3 (q "law_slowroad_k59_whole_all_comes" 622) 348
def o360:Ob:=tp [q "_law_cell" 646,q "_law_room" 647,q "_law_lag" 648,q "_law_least" 649]
def o362:Ob:=f0 "_law_ring" "_law_ring" (top 16)
def o363:Ob:=cd "_law_ring" 643 "_law_ring" 644 645 241 3 0 0 3 350 true 181 351 .none (.ref 352) (.ref 353) (.ref 354) 650 651
def o364:Ob:=f1 "_law_ring" "_law_ring" (top 16) 3 (q "law_slowroad_k59_whole_all_comes" 622) 355
def o367:Ob:=tp [q "_law_lane" 656,q "_law_number" 657,q "_law_turn_here" 658,q "_law_lag" 659,q "_law_what" 660,q "_law_rest" 661,q "_law_k" 662]
def o369:Ob:=f0 "_law_put_on" "_law_put_on" (top 17)
def o370:Ob:=cd "_law_put_on" 653 "_law_put_on" 654 655 250 5 0 0 3 357 true 181 358 .none (.ref 359) (.ref 360) (.ref 361) 663 664
def o371:Ob:=f1 "_law_put_on" "_law_put_on" (top 17) 3 (q "law_slowroad_k59_whole_all_comes" 622) 362
def o374:Ob:=tp [q "_law_lane" 669,q "_law_turn_here" 670,q "_law_number" 671,q "_law_left" 672,q "_law_found" 673,q "_law_at" 674]
def o376:Ob:=f0 "_law_due" "_law_due" (top 18)
def o377:Ob:=cd "_law_due" 666 "_law_due" 667 668 255 3 0 0 3 364 true 181 365 .none (.ref 366) (.ref 367) (.ref 368) 675 676
def o378:Ob:=f1 "_law_due" "_law_due" (top 18) 3 (q "law_slowroad_k59_whole_all_comes" 622) 369
def o381:Ob:=tp [q "_law_hands" 681,q "_law_lanes" 682,q "_law_numbers" 683,q "_law_turn_here" 684,q "_law_ring_here" 685,q "_law_lag" 686,q "_law_sender" 687,q "_law_taker" 688,q "_law_things" 689,q "_law_given" 690,q "_law_place" 691,q "_law_answer" 692,q "_law_gone" 693]
def o383:Ob:=f0 "_law_turn" "_law_turn" (top 19)
def o384:Ob:=cd "_law_turn" 678 "_law_turn" 679 680 263 6 0 0 3 371 true 181 372 .none (.ref 373) (.ref 374) (.ref 375) 694 695
def o385:Ob:=f1 "_law_turn" "_law_turn" (top 19) 3 (q "law_slowroad_k59_whole_all_comes" 622) 376
def o388:Ob:=tp [q "_law_found" 700,q "_law_due_here" 701]
def o390:Ob:=f0 "_law_alike" "_law_alike" (top 20)
def o391:Ob:=cd "_law_alike" 697 "_law_alike" 698 699 274 2 0 0 3 378 true 181 379 .none (.ref 380) (.ref 381) (.ref 382) 702 703
def o392:Ob:=f1 "_law_alike" "_law_alike" (top 20) 3 (q "law_slowroad_k59_whole_all_comes" 622) 383
def o395:Ob:=f0 "law" "law" (top 21)
def o396:Ob:=cd "law" 705 "law" 706 707 276 1 0 0 3 385 true 181 386 .none .none .none (.ref 387) 708 709
def o397:Ob:=f1 "law" "law" (top 21) 3 (q "law_slowroad_k59_whole_all_comes" 622) 388
def hdK : Params → Frag := fun P => (nat_lit 2,boot_o_2 P)::(nat_lit 3,o288 P)::(nat_lit 22,o11)::(nat_lit 24,o26)::(nat_lit 25,o11)::(nat_lit 27,o29)::(nat_lit 28,o30)::(nat_lit 29,o11)::(nat_lit 31,o33)::(nat_lit 32,o11)::(nat_lit 34,o36)::(nat_lit 35,o37)::(nat_lit 36,o11)::(nat_lit 38,o40)::(nat_lit 39,o11)::(nat_lit 41,o43)::(nat_lit 42,o44)::(nat_lit 43,o11)::(nat_lit 45,o47)::(nat_lit 46,o11)::(nat_lit 48,o50)::(nat_lit 49,o51)::(nat_lit 50,o11)::(nat_lit 52,o54)::(nat_lit 53,o11)::(nat_lit 55,o57)::(nat_lit 56,o58)::(nat_lit 57,o11)::(nat_lit 59,o61)::(nat_lit 60,o11)::(nat_lit 62,o64)::(nat_lit 63,o65)::(nat_lit 64,o66)::(nat_lit 65,o67 P)::(nat_lit 66,o68)::(nat_lit 67,o69)::(nat_lit 68,o70)::(nat_lit 71,o11)::(nat_lit 73,o75)::(nat_lit 74,o11)::(nat_lit 76,o78)::(nat_lit 77,o79)::(nat_lit 78,o11)::(nat_lit 80,o82)::(nat_lit 81,o11)::(nat_lit 83,o85)::(nat_lit 84,o86)::(nat_lit 92,o11)::(nat_lit 94,o98)::(nat_lit 95,o11)::(nat_lit 97,o101)::(nat_lit 98,o102)::(nat_lit 99,o11)::(nat_lit 101,o105)::(nat_lit 102,o11)::(nat_lit 104,o108)::(nat_lit 105,o109)::(nat_lit 106,o11)::(nat_lit 108,o112)::(nat_lit 109,o11)::(nat_lit 111,o115)::(nat_lit 112,o116)::(nat_lit 113,o11)::(nat_lit 115,o119)::(nat_lit 116,o11)::(nat_lit 118,o122)::(nat_lit 119,o123)::(nat_lit 120,o11)::(nat_lit 122,o126)::(nat_lit 123,o11)::(nat_lit 125,o129)::(nat_lit 126,o130)::(nat_lit 127,o11)::(nat_lit 129,o133)::(nat_lit 130,o11)::(nat_lit 132,o136)::(nat_lit 133,o137)::(nat_lit 134,o138)::(nat_lit 135,o139 P)::(nat_lit 136,o140)::(nat_lit 137,o141)::(nat_lit 138,o142)::(nat_lit 148,o11)::(nat_lit 150,o156)::(nat_lit 151,o11)::(nat_lit 153,o159)::(nat_lit 154,o160)::(nat_lit 155,o11)::(nat_lit 157,o163)::(nat_lit 158,o11)::(nat_lit 160,o166)::(nat_lit 161,o167)::(nat_lit 162,o11)::(nat_lit 164,o170)::(nat_lit 165,o11)::(nat_lit 167,o173)::(nat_lit 168,o174)::(nat_lit 169,o11)::(nat_lit 171,o177)::(nat_lit 172,o11)::(nat_lit 174,o180)::(nat_lit 175,o181)::(nat_lit 176,o11)::(nat_lit 178,o184)::(nat_lit 179,o11)::(nat_lit 181,o187)::(nat_lit 182,o188)::(nat_lit 183,o11)::(nat_lit 185,o191)::(nat_lit 186,o11)::(nat_lit 188,o194)::(nat_lit 189,o195)::(nat_lit 190,o11)::(nat_lit 193,o199)::(nat_lit 194,o200)::(nat_lit 195,o11)::(nat_lit 198,o204)::(nat_lit 199,o205)::(nat_lit 200,o11)::(nat_lit 203,o209)::(nat_lit 204,o210)::(nat_lit 205,o11)::(nat_lit 207,o213)::(nat_lit 208,o11)::(nat_lit 210,o216)::(nat_lit 211,o217)::(nat_lit 212,o11)::(nat_lit 214,o220)::(nat_lit 215,o11)::(nat_lit 217,o223)::(nat_lit 218,o224)::(nat_lit 219,o11)::(nat_lit 221,o227)::(nat_lit 222,o11)::(nat_lit 224,o230)::(nat_lit 225,o231)::(nat_lit 226,o11)::(nat_lit 228,o234)::(nat_lit 229,o11)::(nat_lit 231,o237)::(nat_lit 232,o238)::(nat_lit 233,o11)::(nat_lit 235,o241)::(nat_lit 236,o11)::(nat_lit 238,o244)::(nat_lit 239,o245)::(nat_lit 240,o11)::(nat_lit 242,o248)::(nat_lit 243,o11)::(nat_lit 245,o251)::(nat_lit 246,o252)::(nat_lit 247,o11)::(nat_lit 249,o255)::(nat_lit 250,o11)::(nat_lit 252,o258)::(nat_lit 253,o259)::(nat_lit 254,o11)::(nat_lit 256,o262)::(nat_lit 257,o11)::(nat_lit 259,o265)::(nat_lit 260,o266)::(nat_lit 261,o11)::(nat_lit 263,o269)::(nat_lit 264,o11)::(nat_lit 266,o272)::(nat_lit 267,o273)::(nat_lit 268,o11)::(nat_lit 270,o276)::(nat_lit 271,o11)::(nat_lit 273,o279)::(nat_lit 274,o280)::(nat_lit 275,o281)::(nat_lit 276,o282 P)::(nat_lit 277,o283)::(nat_lit 278,o284)::(nat_lit 279,o285)::(nat_lit 289,o11)::(nat_lit 291,o299)::(nat_lit 292,o11)::(nat_lit 294,o302)::(nat_lit 295,o303)::(nat_lit 296,o11)::(nat_lit 298,o306)::(nat_lit 299,o11)::(nat_lit 301,o309)::(nat_lit 302,o310)::(nat_lit 303,o11)::(nat_lit 305,o313)::(nat_lit 306,o11)::(nat_lit 308,o316)::(nat_lit 309,o317)::(nat_lit 310,o11)::(nat_lit 312,o320)::(nat_lit 313,o11)::(nat_lit 315,o323)::(nat_lit 316,o324)::(nat_lit 317,o11)::(nat_lit 320,o328)::(nat_lit 321,o329)::(nat_lit 322,o11)::(nat_lit 324,o332)::(nat_lit 325,o11)::(nat_lit 327,o335)::(nat_lit 328,o336)::(nat_lit 329,o337)::(nat_lit 330,o338 P)::(nat_lit 331,o339)::(nat_lit 332,o340)::(nat_lit 333,o341)::(nat_lit 336,o11)::(nat_lit 338,o346)::(nat_lit 339,o11)::(nat_lit 341,o349)::(nat_lit 342,o350)::(nat_lit 343,o11)::(nat_lit 345,o353)::(nat_lit 346,o11)::(nat_lit 348,o356)::(nat_lit 349,o357)::(nat_lit 350,o11)::(nat_lit 352,o360)::(nat_lit 353,o11)::(nat_lit 355,o363)::(nat_lit 356,o364)::(nat_lit 357,o11)::(nat_lit 359,o367)::(nat_lit 360,o11)::(nat_lit 362,o370)::(nat_lit 363,o371)::(nat_lit 364,o11)::(nat_lit 366,o374)::(nat_lit 367,o11)::(nat_lit 369,o377)::(nat_lit 370,o378)::(nat_lit 371,o11)::(nat_lit 373,o381)::(nat_lit 374,o11)::(nat_lit 376,o384)::(nat_lit 377,o385)::(nat_lit 378,o11)::(nat_lit 380,o388)::(nat_lit 381,o11)::(nat_lit 383,o391)::(nat_lit 384,o392)::(nat_lit 385,o11)::(nat_lit 388,o396)::(nat_lit 389,o397)::[]
def hdView : Program := { Challenge.pw_slowroad_k59_whole_all_comes with main := { Challenge.pw_slowroad_k59_whole_all_comes.main with body := [top 1, top 3, top 5, top 6, top 7, top 9, top 10, top 12, top 14, top 15, top 16, top 17, top 18, top 19, top 20, top 21] } }
def hdAdr : List Addr := [2, 3, 22, 24, 25, 27, 28, 29, 31, 32, 34, 35, 36, 38, 39, 41, 42, 43, 45, 46, 48, 49, 50, 52, 53, 55, 56, 57, 59, 60, 62, 63, 64, 65, 66, 67, 68, 71, 73, 74, 76, 77, 78, 80, 81, 83, 84, 92, 94, 95, 97, 98, 99, 101, 102, 104, 105, 106, 108, 109, 111, 112, 113, 115, 116, 118, 119, 120, 122, 123, 125, 126, 127, 129, 130, 132, 133, 134, 135, 136, 137, 138, 148, 150, 151, 153, 154, 155, 157, 158, 160, 161, 162, 164, 165, 167, 168, 169, 171, 172, 174, 175, 176, 178, 179, 181, 182, 183, 185, 186, 188, 189, 190, 193, 194, 195, 198, 199, 200, 203, 204, 205, 207, 208, 210, 211, 212, 214, 215, 217, 218, 219, 221, 222, 224, 225, 226, 228, 229, 231, 232, 233, 235, 236, 238, 239, 240, 242, 243, 245, 246, 247, 249, 250, 252, 253, 254, 256, 257, 259, 260, 261, 263, 264, 266, 267, 268, 270, 271, 273, 274, 275, 276, 277, 278, 279, 289, 291, 292, 294, 295, 296, 298, 299, 301, 302, 303, 305, 306, 308, 309, 310, 312, 313, 315, 316, 317, 320, 321, 322, 324, 325, 327, 328, 329, 330, 331, 332, 333, 336, 338, 339, 341, 342, 343, 345, 346, 348, 349, 350, 352, 353, 355, 356, 357, 359, 360, 362, 363, 364, 366, 367, 369, 370, 371, 373, 374, 376, 377, 378, 380, 381, 383, 384, 385, 388, 389]
theorem hd_he : ∀ P, hdAdr = (hdK P).map (·.1) := fun _ => by kernel_rfl
def hdEnv : Env := { scope := Challenge.rw_slowroad_k59_whole_all_comes.row.prog.main.scope, locals := mainNs, globals := mainNs, cells := [], code := Value.ref 13, frame := some 14 }
def hdBody : List Stmt := behindTheImports Challenge.rw_slowroad_k59_whole_all_comes.row.prog
def hdC : Code := .body hdBody hdEnv
abbrev hdB : List Frame := [topFrame (Pos.mk 0 0 0 0)]
abbrev hdn : Option Value := Option.some (Value.ref 6)
def hpre : Params → Heap := fun P => ⟨Array.mk [boot_o_0 P, boot_o_1 P, boot_o_2 P, boot_o_3 P, boot_o_4 P, boot_o_5 P, boot_o_6 P, boot_o_7 P, boot_o_8 P, boot_o_9 P, boot_o_10 P, o11, o12, o13, o14], Life.mk List.nil List.nil List.nil 0 List.nil List.nil Bool.false (List.toArray List.nil) List.nil 0 Bool.false Bool.false Bool.false 0 (List.cons 2000 (List.cons 10 (List.cons 10 List.nil))) Bool.false 0 Bool.true List.nil List.nil 0 Bool.false⟩
theorem hd_pre (w : World) (os : OsState) : topGo treeTable Challenge.rw_slowroad_k59_whole_all_comes.row.prog w 11 hdn 12 (⟨boot_heap w.params, Array.mk [], boot_drawn, boot_toks, os⟩ : Shared) (topStub Challenge.rw_slowroad_k59_whole_all_comes.row.prog) = some ((⟨hpre w.params, Array.mk [], Drawn.mk 0 0 0 0, 187, os⟩ : Shared), ⟨denote treeTable hdC, hdC, Pos.mk 0 0 0 0, hdB⟩) := by kernel_rfl
def ht_block (P : Pm) : BT := up [boot_o_0 P,boot_o_1 P,boot_o_2 P,boot_o_3 P,boot_o_4 P,boot_o_5 P,boot_o_6 P,boot_o_7 P,boot_o_8 P,boot_o_9 P,boot_o_10 P,o11,o12,o13,o14] .nil 0
abbrev lif : Life := Life.mk List.nil List.nil List.nil 0 List.nil List.nil Bool.false (List.toArray List.nil) List.nil 0 Bool.false Bool.false Bool.false 0 (List.cons 2000 (List.cons 10 (List.cons 10 List.nil))) Bool.false 0 Bool.true List.nil List.nil 0 Bool.false
abbrev hs_block (w : World) (os : OsState) : SharedT := SharedT.mk (ht_block w.params) 15 lif (Array.mk []) (Drawn.mk 0 0 0 0) 187 os
theorem hd_blk (w : World) (os : OsState) : segRun treeTable Challenge.rw_slowroad_k59_whole_all_comes.row.prog w 11 hdn 1 1 (⟨hpre w.params, Array.mk [], Drawn.mk 0 0 0 0, 187, os⟩ : Shared) (blockOf hdBody hdEnv hdC (Pos.mk 0 0 0 0) hdB) = some (.next, ((hs_block w os)).abs, hdC, Pos.mk 0 0 0 0) := by kernel_rfl
def ht_g7 (P : Pm) : BT := up [o11,o18,o19 P,o11,o21,o22,o23,o11,o12,o26,o11,o28,o29,o30,o11,o12,o33,o11,o35,o36,o37,o11,o12,o40,o11,o42,o43,o44,o11,o12,o47,o11,o49,o50,o51,o11,o12,o54,o11,o56,o57,o58,o11,o12,o61,o11,o63,o64,o65,o66,o67 P,o68,o69,o70,o71,o72,o11,o12,o75,o11,o77,o78,o79,o11,o12,o82,o11,o84,o85,o86] (ch [(3,o15 P),(12,o16)] (ht_block P)) 15
abbrev hs_g7 (w : World) (os : OsState) : SharedT := SharedT.mk (ht_g7 w.params) 85 lif (Array.mk []) (Drawn.mk 0 0 0 0) 282 os
def hg7 : List Stmt := (hdBody.drop 0).take 7
theorem hd_g7 (w : World) (os : OsState) : segRunT treeTable Challenge.rw_slowroad_k59_whole_all_comes.row.prog w 11 hdn 1 481 (hs_block w os) (piecesOf hg7 hdEnv hdC (Pos.mk 0 0 0 0) hdB) = some (.next, (hs_g7 w os), hdC, Pos.mk 42 0 44 44) := by kernel_rfl
def ht_g10 (P : Pm) : BT := up [o11,o18,o91 P,o11,o93,o94,o95,o11,o12,o98,o11,o100,o101,o102,o11,o12,o105,o11,o107,o108,o109,o11,o12,o112,o11,o114,o115,o116,o11,o12,o119,o11,o121,o122,o123,o11,o12,o126,o11,o128,o129,o130,o11,o12,o133,o11,o135,o136,o137,o138,o139 P,o140,o141,o142,o143,o144] (ch [(3,o87 P),(12,o88)] (ht_g7 P)) 85
abbrev hs_g10 (w : World) (os : OsState) : SharedT := SharedT.mk (ht_g10 w.params) 141 lif (Array.mk []) (Drawn.mk 0 0 0 0) 360 os
def hg10 : List Stmt := (hdBody.drop 7).take 3
theorem hd_g10 (w : World) (os : OsState) : segRunT treeTable Challenge.rw_slowroad_k59_whole_all_comes.row.prog w 11 hdn 1 406 (hs_g7 w os) (piecesOf hg10 hdEnv hdC (Pos.mk 42 0 44 44) hdB) = some (.next, (hs_g10 w os), hdC, Pos.mk 77 0 77 14) := by kernel_rfl
def ht_g11 (P : Pm) : BT := up [o11,o18,o149 P,o11,o151,o152,o153,o11,o12,o156,o11,o158,o159,o160,o11,o12,o163,o11,o165,o166,o167,o11,o12,o170,o11,o172,o173,o174,o11,o12,o177,o11,o179,o180,o181,o11,o12,o184,o11,o186,o187,o188,o11,o12,o191,o11,o193,o194,o195,o11,o12,o198,o199,o200,o11,o12,o203,o204,o205,o11,o12,o208,o209,o210,o11,o12,o213,o11,o215,o216,o217,o11,o12,o220,o11,o222,o223,o224,o11,o12,o227,o11,o229,o230,o231,o11,o12,o234,o11,o236,o237,o238,o11,o12,o241,o11,o243,o244,o245,o11,o12,o248,o11,o250,o251,o252,o11,o12,o255,o11,o257,o258,o259,o11,o12,o262,o11,o264,o265,o266,o11,o12,o269,o11,o271,o272,o273,o11,o12,o276,o11,o278,o279,o280,o281,o282 P,o283,o284,o285,o286,o287] (ch [(3,o145 P),(12,o146)] (ht_g10 P)) 141
abbrev hs_g11 (w : World) (os : OsState) : SharedT := SharedT.mk (ht_g11 w.params) 282 lif (Array.mk []) (Drawn.mk 0 0 0 0) 544 os
def hg11 : List Stmt := (hdBody.drop 10).take 1
theorem hd_g11 (w : World) (os : OsState) : segRunT treeTable Challenge.rw_slowroad_k59_whole_all_comes.row.prog w 11 hdn 1 804 (hs_g10 w os) (piecesOf hg11 hdEnv hdC (Pos.mk 77 0 77 14) hdB) = some (.next, (hs_g11 w os), hdC, Pos.mk 78 0 189 28) := by kernel_rfl
def ht_g22 (P : Pm) : BT := up [o11,o18,o292 P,o11,o294,o295,o296,o11,o12,o299,o11,o301,o302,o303,o11,o12,o306,o11,o308,o309,o310,o11,o12,o313,o11,o315,o316,o317,o11,o12,o320,o11,o322,o323,o324,o11,o12,o327,o328,o329,o11,o12,o332,o11,o334,o335,o336,o337,o338 P,o339,o340,o341,o342,o343,o11,o12,o346,o11,o348,o349,o350,o11,o12,o353,o11,o355,o356,o357,o11,o12,o360,o11,o362,o363,o364,o11,o12,o367,o11,o369,o370,o371,o11,o12,o374,o11,o376,o377,o378,o11,o12,o381,o11,o383,o384,o385,o11,o12,o388,o11,o390,o391,o392,o11,o12,o395,o396,o397] (ch [(3,o288 P),(12,o289)] (ht_g11 P)) 282
abbrev hs_g22 (w : World) (os : OsState) : SharedT := SharedT.mk (ht_g22 w.params) 390 lif (Array.mk []) (Drawn.mk 0 0 0 0) 711 os
def hg22 : List Stmt := (hdBody.drop 11).take 11
theorem hd_g22 (w : World) (os : OsState) : segRunT treeTable Challenge.rw_slowroad_k59_whole_all_comes.row.prog w 11 hdn 1 667 (hs_g11 w os) (piecesOf hg22 hdEnv hdC (Pos.mk 78 0 189 28) hdB) = some (.next, (hs_g22 w os), hdC, Pos.mk 276 0 304 115) := by kernel_rfl
def hfin : Pm → Heap := fun P => ⟨Array.mk ((ht_g22 P).list 390), Life.mk List.nil List.nil List.nil 0 List.nil List.nil Bool.false (List.toArray List.nil) List.nil 0 Bool.false Bool.false Bool.false 0 (List.cons 2000 (List.cons 10 (List.cons 10 List.nil))) Bool.false 0 Bool.true List.nil List.nil 0 Bool.false⟩
theorem hd_fin (w : World) (os : OsState) : topRun treeTable Challenge.rw_slowroad_k59_whole_all_comes.row.prog w 11 hdn 2 ((hs_g22 w os)).abs ⟨doneF .next, hdC, Pos.mk 276 0 304 115, hdB⟩ = some (⟨hfin w.params, Array.mk [], Drawn.mk 0 0 0 0, 711, os⟩ : Shared) := by kernel_rfl
theorem hd_body : hdBody = hg7 ++ (hg10 ++ (hg11 ++ (hg22 ++ ([])))) := by kernel_rfl
theorem hd_rest (w : World) (os : OsState) : topRun treeTable Challenge.rw_slowroad_k59_whole_all_comes.row.prog w 11 hdn 2360 ((hs_block w os)).abs (restOf hdBody hdEnv hdC (Pos.mk 0 0 0 0) hdB) = some (⟨hfin w.params, Array.mk [], Drawn.mk 0 0 0 0, 711, os⟩ : Shared) := by
 rw [hd_body]; exact (piece_app (segRun_of (hd_g7 w os)) (piece_app (segRun_of (hd_g10 w os)) (piece_app (segRun_of (hd_g11 w os)) (piece_app (segRun_of (hd_g22 w os)) (piece_nil (hd_fin w os))))))
theorem hd_run (w : World) (os : OsState) : topRun treeTable Challenge.rw_slowroad_k59_whole_all_comes.row.prog w 11 hdn 2373 (⟨boot_heap w.params, Array.mk [], boot_drawn, boot_toks, os⟩ : Shared) (topStub Challenge.rw_slowroad_k59_whole_all_comes.row.prog) = some (⟨hfin w.params, Array.mk [], Drawn.mk 0 0 0 0, 711, os⟩ : Shared) := go_top (n := 12) (N := 2361) (hd_pre w os) (piece_block (n := 1) (N := 2360) (hd_blk w os) (hd_rest w os))
theorem hd_open : ∀ w : World, (fencedOpening treeTable Challenge.rw_slowroad_k59_whole_all_comes.row.prog w 4834).map (fun s => (s.heap, s.gens, s.drawn, s.toks)) = some (boot_heap w.params, Array.mk [], boot_drawn, boot_toks) := boot_open rfl (by decide) (fun s => rfl)
theorem hd_size : ∀ w : World, ((boot_heap w.params).isNs mainGlobals && (Array.mk [] : Array GenState).size == 0, (boot_heap w.params).objs.size, (boot_heap w.params).nsMap mainGlobals "__annotations__") = (true, 11, hdn) := fun w => by kernel_rfl
theorem hd_l1 (w : World) (os : OsState) : (staticsOk (importedModules Challenge.rw_slowroad_k59_whole_all_comes.row.prog.main.body) (boot_heap w.params) (hfin w.params) && namesBound Challenge.rw_slowroad_k59_whole_all_comes.row.prog (hfin w.params) && gensDone (⟨hfin w.params, Array.mk [], Drawn.mk 0 0 0 0, 711, os⟩ : Shared) && laidKept (boot_heap w.params) (hfin w.params)) = true := by kernel_rfl
theorem hd_l2 (w : World) (os : OsState) : openSeen hdView [] (importedModules Challenge.rw_slowroad_k59_whole_all_comes.row.prog.main.body) (fun s => xlAt hdView [] s && recOk Challenge.rw_slowroad_k59_whole_all_comes.row.records s) true (⟨hfin w.params, Array.mk [], Drawn.mk 0 0 0 0, 711, os⟩ : Shared) = openGood hdView [] := by kernel_rfl
theorem hd_l3 (w : World) (os : OsState) : (kHook hdK hdAdr hd_he).obs (⟨hfin w.params, Array.mk [], Drawn.mk 0 0 0 0, 711, os⟩ : Shared) = (kHook hdK hdAdr hd_he).val w := by kernel_rfl
theorem hd_hl : ∀ w : World, Option.map (fun s => (openSeen hdView [] (importedModules Challenge.rw_slowroad_k59_whole_all_comes.row.prog.main.body) (fun s => xlAt hdView [] s && recOk Challenge.rw_slowroad_k59_whole_all_comes.row.records s) true s, (kHook hdK hdAdr hd_he).obs s)) (openEnds treeTable Challenge.rw_slowroad_k59_whole_all_comes.row.prog w 4834) = some (openGood hdView [], (kHook hdK hdAdr hd_he).val w) := LeftO.of_pieces (H₀ := boot_heap) (H₁ := hfin) hd_open hd_size hd_run (by decide) (fun w => funext fun os => looks_pair (hd_l1 w os) (looks_pair (hd_l2 w os) (hd_l3 w os)))
end
noncomputable def sp_Meter___init__  (C_Meter : Addr) : Sp := fun vs H Q E => match vs with
 | [.ref p, .int m] => ∃ dx, H p = some (.ins C_Meter dx []) ∧ Q .non (upd H p (.ins C_Meter dx (fl_Meter (.int m) (.int (MeterM.mn 2 m)) (.int m) (.int 0))))
 | _ => False
noncomputable def sp_Meter_know_one  (C_Meter : Addr) : Sp := fun vs H Q E => match vs with
 | [.ref p] => ∃ dx m w k c, H p = some (.ins C_Meter dx (fl_Meter (.int m) (.int w) (.int k) (.int c))) ∧ Q .non (upd H p (.ins C_Meter dx (fl_Meter (.int m) (.int (MeterM.k1 m k (w, c)).1) (.int k) (.int (MeterM.k1 m k (w, c)).2))))
 | _ => False
noncomputable def sp_Meter_known  (C_Meter : Addr) : Sp := fun vs H Q E => match vs with
 | [.ref p, .int n] => (0 ≤ n ∧ n < 1000) ∧ ∃ dx m w k c, H p = some (.ins C_Meter dx (fl_Meter (.int m) (.int w) (.int k) (.int c))) ∧ Q .non (upd H p (.ins C_Meter dx (fl_Meter (.int m) (.int (MeterM.kn m k n.toNat (w, c)).1) (.int k) (.int (MeterM.kn m k n.toNat (w, c)).2))))
 | _ => False
noncomputable def sp_Meter_half  (C_Meter : Addr) : Sp := fun vs H Q E => match vs with
 | [.ref p] => ∃ dx m w k c, H p = some (.ins C_Meter dx (fl_Meter (.int m) (.int w) (.int k) (.int c))) ∧ Q (.int (MeterM.hf w)) H
 | _ => False
noncomputable def sp_Meter_ran_out  (C_Meter : Addr) : Sp := fun vs H Q E => match vs with
 | [.ref p] => ∃ dx m w k c, H p = some (.ins C_Meter dx (fl_Meter (.int m) (.int w) (.int k) (.int c))) ∧ Q .non (upd H p (.ins C_Meter dx (fl_Meter (.int m) (.int 1) (.int (MeterM.hf w)) (.int 0))))
 | _ => False
noncomputable def sp_Meter_hurried  (C_Meter : Addr) : Sp := fun vs H Q E => match vs with
 | [.ref p] => ∃ dx m w k c, H p = some (.ins C_Meter dx (fl_Meter (.int m) (.int w) (.int k) (.int c))) ∧ Q .non (upd H p (.ins C_Meter dx (fl_Meter (.int m) (.int (MeterM.hf w)) (.int (MeterM.hf w)) (.int 0))))
 | _ => False
structure Wb (a A b B m : Int) : Prop where
 m0 : 0 ≤ m
 m1 : m ≤ 1000000
 a0 : 0 ≤ a
 A0 : 0 < A
 b0 : 0 ≤ b
 B0 : 0 < B
 a1 : Bd 1000 a
 A1 : Bd 1000 A
 b1 : Bd 1000 b
 B1 : Bd 1000 B
noncomputable def WayAt (C_Ways : Addr) (H : Hp) (p dx : Addr) (L w a A b B : Int) : Prop := ∃ ps pp, H p = some (.ins C_Ways dx (fl_Ways (.int L) (.ref ps) (.ref pp) (.int w))) ∧ H ps = some (.tup [.int a, .int A]) ∧ H pp = some (.tup [.int b, .int B])
noncomputable abbrev nsp := WaysM.nsp
noncomputable abbrev nsm := WaysM.nsm
noncomputable def lw (a A b B : Int) : Int := -(-(a * B + 4 * b * A) / (A * B))
noncomputable def wt (L a A b B : Int) : Int := if 2 < (if lw a A b B < L then lw a A b B else L) then (if lw a A b B < L then lw a A b B else L) else 2
theorem Wb.mB {a A b B m : Int} (W : Wb a A b B m) : Bd 20 m := Bd.of W.m0 (by have := W.m1; omega)
theorem Wb.nsmT {a A b B m : Int} (W : Wb a A b B m) : 0 ≤ 3 * a + m * A ∧ 0 < 4 * A := by
 have := Int.mul_nonneg W.m0 (Int.le_of_lt W.A0)
 have := W.a0
 have := W.A0
 omega
theorem Wb.nspT {a A b B m : Int} (W : Wb a A b B m) : 0 ≤ 3 * b * A + ((a - m * A).natAbs : Int) * B ∧ 0 < 4 * (A * B) := by
 have p1 := Int.mul_pos W.A0 W.B0
 have := Int.mul_nonneg (Int.mul_nonneg (show (0 : Int) ≤ 3 by decide) W.b0) (Int.le_of_lt W.A0)
 have := Int.mul_nonneg (Int.natCast_nonneg (a - m * A).natAbs) (Int.le_of_lt W.B0)
 omega
theorem Wb.nsmB {a A b B m : Int} (W : Wb a A b B m) : 0 ≤ (nsm a A m).1 ∧ 0 < (nsm a A m).2 ∧ Bd 2000 (nsm a A m).1 ∧ Bd 2000 (nsm a A m).2 := by
 obtain ⟨s, Lo⟩ := WaysM.low_spec W.nsmT.1 W.nsmT.2
 have h1 : Bd 1021 (3 * a + m * A) := (((Bd.c (n := 2) (k := 3) (by decide)).mul W.a1).up (show 2 + 1000 ≤ 1020 by decide)).add (W.mB.mul W.A1)
 exact ⟨Lo.t0, Lo.b0, (h1.le Lo.t0 Lo.tl).up (by decide), (Bd.le ((Bd.c (n := 3) (k := 4) (by decide)).mul W.A1) (Int.le_of_lt Lo.b0) Lo.bl).up (by decide)⟩
theorem Wb.nspB {a A b B m : Int} (W : Wb a A b B m) : 0 ≤ (nsp a A b B m).1 ∧ 0 < (nsp a A b B m).2 ∧ Bd 3000 (nsp a A b B m).1 ∧ Bd 3000 (nsp a A b B m).2 := by
 obtain ⟨s, Lo⟩ := WaysM.low_spec W.nspT.1 W.nspT.2
 have d := ((W.a1.up (show 1000 ≤ 1020 by decide)).sub (W.mB.mul W.A1)).abs
 have h1 : Bd 2022 (3 * b * A + ((a - m * A).natAbs : Int) * B) := ((((Bd.c (n := 2) (k := 3) (by decide)).mul W.b1).mul W.A1).up (show 2 + 1000 + 1000 ≤ 2021 by decide)).add (d.mul W.B1)
 exact ⟨Lo.t0, Lo.b0, (h1.le Lo.t0 Lo.tl).up (by decide), (Bd.le ((Bd.c (n := 3) (k := 4) (by decide)).mul (W.A1.mul W.B1)) (Int.le_of_lt Lo.b0) Lo.bl).up (by decide)⟩
theorem Wb.of {n : Nat} {P S D a A b B m : Int} (h : WaysM.St n P S D a A b B) (hn : n ≤ 400) (h0 : 0 ≤ m) (h1 : m ≤ 1000000) : Wb a A b B m := by
 have e : (4 : Int) ^ n = ((2 ^ (2 * n) : Nat) : Int) := by rw [WaysM.four_two]; simp
 have hP : Bd 801 P := by rw [h.p, e]; exact Bd.c (Nat.pow_lt_pow_right (by decide) (by omega))
 have P0 := Int.le_of_lt h.P0
 have hS : Bd 821 S := Bd.le ((Bd.c (n := 20) (k := 1000000) (by decide)).mul hP) h.s0 h.s1
 have hD : Bd 822 D := Bd.le ((Bd.c (n := 21) (k := 2000000) (by decide)).mul hP) h.d0 h.d1
 exact ⟨h0, h1, h.a0, h.A0, h.b0, h.B0, (hS.le h.a0 h.a1).up (by decide), (hP.le (Int.le_of_lt h.A0) h.A1).up (by decide), (hD.le h.b0 h.b1).up (by decide), (Bd.le ((Bd.c (n := 2) (k := 2) (by decide)).mul hP) (Int.le_of_lt h.B0) h.B1).up (by decide)⟩
noncomputable def sp_lowest  : Sp := fun vs H Q E => match vs with
 | [.int t, .int b] => (0 ≤ t ∧ 0 < b ∧ Bd 8000 b) ∧ ∀ p, H p = none → Q (.ref p) (upd H p (.tup [.int (WaysM.low t b).1, .int (WaysM.low t b).2]))
 | _ => False
noncomputable def sp_Ways___init__  (C_Ways : Addr) : Sp := fun vs H Q E => match vs with
 | [.ref p, .int f, .int l] => ∃ dx, H p = some (.ins C_Ways dx []) ∧ Q .non (upd H p (.ins C_Ways dx (fl_Ways (.int l) .non .non (.int f))))
 | _ => False
noncomputable def sp_Ways_next_spread  (C_Ways : Addr) : Sp := fun vs H Q E => match vs with
 | [.ref p, .int m] => ∃ dx L w a A b B, Wb a A b B m ∧ WayAt C_Ways H p dx L w a A b B ∧ ∀ q, H q = none → Q (.ref q) (upd H q (.tup [.int (nsp a A b B m).1, .int (nsp a A b B m).2]))
 | _ => False
noncomputable def sp_Ways_next_smooth  (C_Ways : Addr) : Sp := fun vs H Q E => match vs with
 | [.ref p, .int m] => ∃ dx L s ps w a A, (0 ≤ m ∧ m ≤ 1000000 ∧ 0 ≤ a ∧ 0 < A ∧ Bd 1000 A) ∧ H p = some (.ins C_Ways dx (fl_Ways (.int L) (.ref ps) s (.int w))) ∧ H ps = some (.tup [.int a, .int A]) ∧ ∀ q, H q = none → Q (.ref q) (upd H q (.tup [.int (nsm a A m).1, .int (nsm a A m).2]))
 | _ => False
noncomputable def sp_Ways_least_wait  (C_Ways : Addr) : Sp := fun vs H Q E => match vs with
 | [.ref p] => ∃ dx L w a A b B, (0 < A ∧ 0 < B ∧ Bd 2000 a ∧ Bd 2000 A ∧ Bd 3000 b ∧ Bd 3000 B) ∧ WayAt C_Ways H p dx L w a A b B ∧ Q (.int (lw a A b B)) H
 | _ => False
noncomputable def sp_Ways_measured  (C_Ways : Addr) : Sp := fun vs H Q E => match vs with
 | [.ref p, .int m] => (0 ≤ m ∧ m ≤ 1000000) ∧ ((∃ dx L w, H p = some (.ins C_Ways dx (fl_Ways (.int L) .non .non (.int w))) ∧ ∀ H', But p H H' → WayAt C_Ways H' p dx L (wt L m 1 (WaysM.low m 2).1 (WaysM.low m 2).2) m 1 (WaysM.low m 2).1 (WaysM.low m 2).2 → Q .non H') ∨ (∃ dx L w a A b B, Wb a A b B m ∧ WayAt C_Ways H p dx L w a A b B ∧ ∀ H', But p H H' → WayAt C_Ways H' p dx L (wt L (nsm a A m).1 (nsm a A m).2 (nsp a A b B m).1 (nsp a A b B m).2) (nsm a A m).1 (nsm a A m).2 (nsp a A b B m).1 (nsp a A b B m).2 → Q .non H'))
 | _ => False
noncomputable def sp_Ways_ran_out  (C_Ways : Addr) : Sp := fun vs H Q E => match vs with
 | [.ref p] => ∃ dx L s sp w, H p = some (.ins C_Ways dx (fl_Ways (.int L) s sp (.int w))) ∧ Q .non (upd H p (.ins C_Ways dx (fl_Ways (.int L) s sp (.int (if L < 2 * w then L else 2 * w)))))
 | _ => False
noncomputable def sp__law_cell_at  (K : PySem.W.Frag) (a₀ : Addr) (ns : List Int) : Sp := fun vs H Q E => match vs with
 | [.ref a, .int k] => a = a₀ ∧ SqL K H a₀ (ns.map V.int) ∧ 0 ≤ k ∧ ∀ n, Q (.int n) H
 | _ => False
noncomputable abbrev Wg := Option (Int × Int × Int × Int)
noncomputable def WS (C : Addr) (H : Hp) (p dx : Addr) (L w : Int) (g : Wg) (k : Nat) : Prop := 2 ≤ L ∧ (2 ≤ w ∧ w ≤ L) ∧ ((k = 0 ∧ g = none ∧ H p = some (.ins C dx (fl_Ways (V.int L) V.non V.non (V.int w)))) ∨ ∃ n P S D a A b B, g = some (a, A, b, B) ∧ n + 1 = k ∧ WaysM.St n P S D a A b B ∧ WayAt C H p dx L w a A b B)
noncomputable def mgs (g : Wg) (m : Int) : Wg := match g with
 | none => some (m, 1, (WaysM.low m 2).1, (WaysM.low m 2).2)
 | some (a, A, b, B) => some ((nsm a A m).1, (nsm a A m).2, (nsp a A b B m).1, (nsp a A b B m).2)
noncomputable def mws (L : Int) (g : Wg) : Int := match g with
 | none => 2
 | some (a, A, b, B) => wt L a A b B
theorem wt_in {L a A b B : Int} (h : 2 ≤ L) : 2 ≤ wt L a A b B ∧ wt L a A b B ≤ L := by
 unfold wt
 generalize lw a A b B = x
 (repeat' split) <;> omega
theorem WS.meas {C p dx : Addr} {H : Hp} {L w m : Int} {g : Wg} {k : Nat} {Q : VK} {E : XK} (h : WS C H p dx L w g k) (hk : k ≤ 400) (m0 : 0 ≤ m) (m1 : m ≤ 1000000) (q : ∀ H', But p H H' → WS C H' p dx L (mws L (mgs g m)) (mgs g m) (k + 1) → Q .non H') : sp_Ways_measured C [.ref p, .int m] H Q E := by
 obtain ⟨hL, hw, ⟨h1, rfl, hi⟩ | ⟨n, P, S, D, a, A, b, B, rfl, h1, hS, hA⟩⟩ := h
 ·exact ⟨⟨m0, m1⟩, .inl ⟨dx, L, w, hi, fun H' hB hW => q H' hB ⟨hL, wt_in hL, .inr ⟨0, _, _, _, _, _, _, _, rfl, by omega, WaysM.St.first m0 m1, hW⟩⟩⟩⟩
 ·exact ⟨⟨m0, m1⟩, .inr ⟨dx, L, w, a, A, b, B, Wb.of hS (by omega) m0 m1, hA, fun H' hB hW => q H' hB ⟨hL, wt_in hL, .inr ⟨n + 1, _, _, _, _, _, _, _, rfl, by omega, hS.step m0 m1, hW⟩⟩⟩⟩
theorem WS.ins {C p dx : Addr} {H : Hp} {L w : Int} {g : Wg} {k : Nat} (h : WS C H p dx L w g k) : ∃ s sp, H p = some (.ins C dx (fl_Ways (V.int L) s sp (V.int w))) := by
 obtain ⟨_, _, ⟨_, _, hi⟩ | ⟨n, P, S, D, a, A, b, B, _, _, _, ⟨ps, pp, g1, _⟩⟩⟩ := h
 ·exact ⟨_, _, hi⟩
 ·exact ⟨_, _, g1⟩
theorem WS.keep {C p dx : Addr} {H H' : Hp} {L w : Int} {g : Wg} {k : Nat} (h : WS C H p dx L w g k) (hp : ∀ o, H p = some o → H' p = some o) (ht : ∀ t l, H t = some (.tup l) → H' t = some (.tup l)) : WS C H' p dx L w g k := by
 obtain ⟨h0, h1, ⟨a1, a2, a3⟩ | ⟨n, P, S, D, a, A, b, B, b0, b1, b2, ⟨ps, pp, g1, g2, g3⟩⟩⟩ := h
 ·exact ⟨h0, h1, .inl ⟨a1, a2, hp _ a3⟩⟩
 ·exact ⟨h0, h1, .inr ⟨n, P, S, D, a, A, b, B, b0, b1, b2, ⟨ps, pp, hp _ g1, ht _ _ g2, ht _ _ g3⟩⟩⟩
noncomputable def MS (C : Addr) (H : Hp) (p dx : Addr) (mo wi kn co : Int) : Prop := H p = some (.ins C dx (fl_Meter (.int mo) (.int wi) (.int kn) (.int co))) ∧ MeterM.Inb mo (wi, co)
structure Ad where
 dx : Addr
 pw : Addr
 pm : Addr
 pt : Addr
 pk : Addr
 pf : Addr
 pa : Addr
 dw : Addr
 dm : Addr
structure Sd where
 R : Int
 b : Int
 t : Int
 e : Int
 clk : V
 hur : Bool
 T : List V
 Kn : List (Key × V)
 Fi : List (Key × V)
 Ag : List (Key × V)
 L : Int
 w : Int
 k : Nat
 wi : Int
 g : Wg
 mo : Int
 kn : Int
 co : Int
structure SdAt (CS CW CM : Addr) (H : Hp) (x : Addr) (A : Ad) (z : Sd) : Prop where
 hx : H x = some (.ins CS A.dx (fl_Sender (.int z.R) (.ref A.pw) (.ref A.pm) (.ref A.pt) (.int z.b) (.int z.t) (.int z.e) z.clk (.bl z.hur) (.ref A.pk) (.ref A.pf) (.ref A.pa)))
 ht : H A.pt = some (.lst z.T)
 hk : H A.pk = some (.dK z.Kn)
 hf : H A.pf = some (.dK z.Fi)
 ha : H A.pa = some (.dK z.Ag)
 ws : WS CW H A.pw A.dw z.L z.w z.g z.k
 ms : MS CM H A.pm A.dm z.mo z.wi z.kn z.co
 kf : A.pk ≠ A.pf
 ka : A.pk ≠ A.pa
 fa : A.pf ≠ A.pa
 xw : x ≠ A.pw
 xm : x ≠ A.pm
 wm : A.pw ≠ A.pm
theorem SdAt.same {CS CW CM x : Addr} {H H' : Hp} {A : Ad} {z : Sd} (h : SdAt CS CW CM H x A z) (e : Same H H') : SdAt CS CW CM H' x A z := by
 obtain ⟨e1, hi⟩ := h.ms
 exact ⟨e _ _ h.hx, e _ _ h.ht, e _ _ h.hk, e _ _ h.hf, e _ _ h.ha, h.ws.keep (fun o q => e _ _ q) (fun t l q => e _ _ q), ⟨e _ _ e1, hi⟩, h.kf, h.ka, h.fa, h.xw, h.xm, h.wm⟩
theorem SdAt.put {CS CW CM x : Addr} {H : Hp} {A : Ad} {z : Sd} (h : SdAt CS CW CM H x A z) (b t e : Int) (c : V) (u : Bool) : SdAt CS CW CM (upd H x (.ins CS A.dx (fl_Sender (.int z.R) (.ref A.pw) (.ref A.pm) (.ref A.pt) (.int b) (.int t) (.int e) c (.bl u) (.ref A.pk) (.ref A.pf) (.ref A.pa)))) x A { z with b := b, t := t, e := e, clk := c, hur := u } := by
 obtain ⟨e1, hi⟩ := h.ms
 refine ⟨upd_same, by rw [upd_ne (ne_of h.ht h.hx (by simp))]; exact h.ht, by rw [upd_ne (ne_of h.hk h.hx (by simp))]; exact h.hk, by rw [upd_ne (ne_of h.hf h.hx (by simp))]; exact h.hf, by rw [upd_ne (ne_of h.ha h.hx (by simp))]; exact h.ha,
  h.ws.keep (fun o q => by rw [upd_ne h.xw.symm]; exact q) (fun t l q => by rw [upd_ne (ne_of q h.hx (by simp))]; exact q), ⟨by rw [upd_ne h.xm.symm]; exact e1, hi⟩, h.kf, h.ka, h.fa, h.xw, h.xm, h.wm⟩
theorem SdAt.row {CS CW CM x q : Addr} {H : Hp} {A : Ad} {z : Sd} {o u : HO} (h : SdAt CS CW CM H x A z) (hq : H q = some o) (T : List V) (Kn Fi : List (Key × V)) (n1 : ∀ C d l, o ≠ .ins C d l) (n2 : ∀ l, o ≠ .tup l)
  (g1 : upd H q u A.pt = some (.lst T)) (g2 : upd H q u A.pk = some (.dK Kn)) (g3 : upd H q u A.pf = some (.dK Fi)) (g4 : q ≠ A.pa) : SdAt CS CW CM (upd H q u) x A { z with T := T, Kn := Kn, Fi := Fi } := by
 obtain ⟨e1, hi⟩ := h.ms
 have ni : ∀ p C d l, H p = some (.ins C d l) → p ≠ q := fun p C d l e c => by rw [c, hq] at e; cases e; exact n1 _ _ _ rfl
 obtain ⟨s, sp, ew⟩ := h.ws.ins
 exact ⟨by rw [upd_ne (ni _ _ _ _ h.hx)]; exact h.hx, g1, g2, g3, by rw [upd_ne g4.symm]; exact h.ha, h.ws.keep (fun o' e => by rw [upd_ne (ni _ _ _ _ ew)]; exact e) (fun t l e => by rw [upd_ne (fun c => by rw [c, hq] at e; cases e; exact n2 _ rfl)]; exact e), ⟨by rw [upd_ne (ni _ _ _ _ e1)]; exact e1, hi⟩, h.kf, h.ka, h.fa, h.xw, h.xm, h.wm⟩
noncomputable def Fr6 (x : Addr) (A : Ad) (H H' : Hp) : Prop := ∀ b u, H b = some u → b ≠ x → b ≠ A.pw → b ≠ A.pm → b ≠ A.pt → b ≠ A.pk → b ≠ A.pf → H' b = some u
theorem Fr6.of {x : Addr} {A : Ad} {H H' : Hp} (h : Same H H') : Fr6 x A H H' := fun b u e _ _ _ _ _ _ => h b u e
theorem Fr6.trans {x : Addr} {A : Ad} {H H' H'' : Hp} (h : Fr6 x A H H') (h' : Fr6 x A H' H'') : Fr6 x A H H'' := fun b u e a1 a2 a3 a4 a5 a6 => h' b u (h b u e a1 a2 a3 a4 a5 a6) a1 a2 a3 a4 a5 a6
theorem SdAt.nw {CS CW CM x : Addr} {H : Hp} {A : Ad} {z : Sd} (h : SdAt CS CW CM H x A z) {b : Addr} {o : HO} (e : H b = some o) (n : ∀ C d l, o ≠ .ins C d l) : b ≠ x ∧ b ≠ A.pw ∧ b ≠ A.pm := by
 obtain ⟨s, sp, ew⟩ := h.ws.ins
 obtain ⟨em, _⟩ := h.ms
 exact ⟨ne_of e h.hx (n _ _ _), ne_of e ew (n _ _ _), ne_of e em (n _ _ _)⟩
theorem SdAt.ways {CS CW CM x : Addr} {H H' : Hp} {A : Ad} {z : Sd} {w : Int} {g : Wg} {k : Nat} (h : SdAt CS CW CM H x A z) (hB : But A.pw H H') (hw : WS CW H' A.pw A.dw z.L w g k) : SdAt CS CW CM H' x A { z with w := w, g := g, k := k } := by
 obtain ⟨em, hi⟩ := h.ms
 exact ⟨hB _ _ h.hx h.xw, hB _ _ h.ht (h.nw h.ht (by simp)).2.1, hB _ _ h.hk (h.nw h.hk (by simp)).2.1, hB _ _ h.hf (h.nw h.hf (by simp)).2.1, hB _ _ h.ha (h.nw h.ha (by simp)).2.1, hw, ⟨hB _ _ em h.wm.symm, hi⟩, h.kf, h.ka, h.fa, h.xw, h.xm, h.wm⟩
theorem SdAt.meter {CS CW CM x : Addr} {H H' : Hp} {A : Ad} {z : Sd} {wi kn co : Int} (h : SdAt CS CW CM H x A z) (hB : But A.pm H H') (hm : MS CM H' A.pm A.dm z.mo wi kn co) : SdAt CS CW CM H' x A { z with wi := wi, kn := kn, co := co } := by
 obtain ⟨em, hi⟩ := h.ms
 exact ⟨hB _ _ h.hx h.xm, hB _ _ h.ht (h.nw h.ht (by simp)).2.2, hB _ _ h.hk (h.nw h.hk (by simp)).2.2, hB _ _ h.hf (h.nw h.hf (by simp)).2.2, hB _ _ h.ha (h.nw h.ha (by simp)).2.2, h.ws.keep (fun o e => hB _ _ e h.wm) (fun t l e => hB _ _ e (ne_of e em (by simp))), hm, h.kf, h.ka, h.fa, h.xw, h.xm, h.wm⟩
theorem Fr6.tup {CS CW CM x t : Addr} {H H' : Hp} {A : Ad} {z : Sd} {l : List V} (f : Fr6 x A H H') (h : SdAt CS CW CM H x A z) (e : H t = some (.tup l)) : H' t = some (.tup l) := by
 obtain ⟨a1, a2, a3⟩ := h.nw e (by simp)
 exact f t _ e a1 a2 a3 (ne_of e h.ht (by simp)) (ne_of e h.hk (by simp)) (ne_of e h.hf (by simp))
theorem Fr6.lst {CS CW CM x t : Addr} {H H' : Hp} {A : Ad} {z : Sd} {l : List V} (f : Fr6 x A H H') (h : SdAt CS CW CM H x A z) (e : H t = some (.lst l)) (n : t ≠ A.pt) : H' t = some (.lst l) := by
 obtain ⟨a1, a2, a3⟩ := h.nw e (by simp)
 exact f t _ e a1 a2 a3 n (ne_of e h.hk (by simp)) (ne_of e h.hf (by simp))
theorem Fr6.none {CS CW CM x p : Addr} {H H' : Hp} {A : Ad} {z : Sd} (f : Fr6 x A H H') (h : SdAt CS CW CM H' x A z) (e : H' p = none) : H p = none := by
 obtain ⟨s, sp, ew⟩ := h.ws.ins
 obtain ⟨em, _⟩ := h.ms
 cases q : H p with
 | none => rfl
 | some u =>
  have nn : ∀ {b : Addr} {o : HO}, H' b = some o → p ≠ b := fun {b o} eb c => by rw [c, eb] at e; cases e
  rw [f p u q (nn h.hx) (nn ew) (nn em) (nn h.ht) (nn h.hk) (nn h.hf)] at e
  cases e
theorem free_of {H H' : Hp} (e : Same H H') {p : Addr} (h : H' p = none) : H p = none := by
 cases q : H p with
 | none => rfl
 | some o => rw [e _ _ q] at h; cases h
theorem atI_ex {α : Type} {xs : List α} {i : Int} (h0 : 0 ≤ i) (h1 : i < xs.length) : ∃ v, atI xs i = some v := by
 obtain ⟨j, rfl⟩ : ∃ j : Nat, i = (j : Int) := ⟨i.toNat, by omega⟩
 exact ⟨xs[j]'(by omega), atI_n (List.getElem?_eq_getElem (by omega))⟩
theorem strlen : ∀ n : Fin 101, (Str.ofString (toString ((n : Nat) : Int))).length ≤ 10 := by decide +kernel
theorem loglen : ∀ n : Fin 101, ((n : Nat) : Int).natAbs.log2 < 1920 := by decide +kernel
noncomputable def knw (D : List (Key × V)) (j : Int) : Bool := (valV D (ik j)).isSome
noncomputable def kab (z : Sd) : Nat := ((List.range (z.t - (z.b + 1)).toNat).filter fun j : Nat => knw z.Kn (z.b + 1 + (j : Int))).length
theorem kab_le {z : Sd} : kab z ≤ (z.t - (z.b + 1)).toNat := by
 unfold kab
 exact Nat.le_trans (List.length_filter_le _ _) (by rw [List.length_range]; exact Nat.le_refl _)
theorem kab_len {z : Sd} {N : Nat} (h : N = (z.t - (z.b + 1)).toNat) : (List.map (fun v => v) (List.filter (fun v => match v with | V.int i => knw z.Kn i | _ => false) (rngV (z.b + 1) N))).length = kab z := by
 subst h
 unfold rngV kab
 rw [List.map_id', List.filter_map, List.length_map]
 rfl
noncomputable def putAll (D : List (Key × V)) (ps : List Int) : List (Key × V) := ps.foldl (fun D n => putK D (ik n) (.bl true)) D
noncomputable def frs (D : List (Key × V)) (ps : List Int) : List Int := ps.filter fun n => !knw D n
theorem frs_eq {D : List (Key × V)} {ps : List Int} : List.map (fun v => v) (List.filter (fun v => match v with | V.int i => !knw D i | _ => false) (ps.map V.int)) = (frs D ps).map V.int := by
 unfold frs
 rw [List.map_id', List.filter_map]
 rfl
theorem putAll_len {D : List (Key × V)} {ps : List Int} : (putAll D ps).length ≤ D.length + ps.length := by
 induction ps generalizing D with
 | nil => exact Nat.le_refl _
 | cons a t ih =>
  have h1 := ih (D := putK D (ik a) (.bl true))
  have h2 := length_putK D (ik a) (.bl true)
  show (putAll (putK D (ik a) (.bl true)) t).length ≤ _
  simp only [List.length_cons]
  omega
theorem putAll_snoc {D : List (Key × V)} {ps : List Int} {n : Int} : putAll D (ps ++ [n]) = putK (putAll D ps) (ik n) (.bl true) := by
 unfold putAll; rw [List.foldl_append]; rfl
noncomputable def irg (b : Int) (n : Nat) : List Int := (List.range n).map fun j : Nat => b + (j : Int)
theorem irg_eq {b : Int} {n : Nat} : rngV b n = (irg b n).map V.int := by
 unfold rngV irg; rw [List.map_map]; rfl
noncomputable def hld (z : Sd) (hs : List Int) : List Int := (hs.filter fun h => decide (z.b + h < z.t)).map fun h => z.b + h
theorem hld_eq {z : Sd} {hs : List Int} : List.map (fun v => match v with | V.int i => V.int (z.b + i) | v => v) (List.filter (fun v => match v with | V.int i => decide (z.b + i < z.t) | _ => false) (hs.map V.int)) = (hld z hs).map V.int := by
 unfold hld
 rw [List.filter_map, List.map_map, List.map_map]
 rfl
theorem hld_len {z : Sd} {hs : List Int} : (hld z hs).length ≤ hs.length := by
 unfold hld; rw [List.length_map]; exact List.length_filter_le _ _
noncomputable def Fr7 (x : Addr) (A : Ad) (H H' : Hp) : Prop := ∀ b u, H b = some u → b ≠ x → b ≠ A.pw → b ≠ A.pm → b ≠ A.pt → b ≠ A.pk → b ≠ A.pf → b ≠ A.pa → H' b = some u
theorem Fr6.seven {x : Addr} {A : Ad} {H H' : Hp} (h : Fr6 x A H H') : Fr7 x A H H' := fun b u e a1 a2 a3 a4 a5 a6 _ => h b u e a1 a2 a3 a4 a5 a6
theorem Fr7.trans {x : Addr} {A : Ad} {H H' H'' : Hp} (h : Fr7 x A H H') (h' : Fr7 x A H' H'') : Fr7 x A H H'' := fun b u e a1 a2 a3 a4 a5 a6 a7 => h' b u (h b u e a1 a2 a3 a4 a5 a6 a7) a1 a2 a3 a4 a5 a6 a7
theorem SdAt.rowA {CS CW CM x : Addr} {H : Hp} {A : Ad} {z : Sd} (h : SdAt CS CW CM H x A z) (Ag : List (Key × V)) : SdAt CS CW CM (upd H A.pa (.dK Ag)) x A { z with Ag := Ag } := by
 obtain ⟨e1, hi⟩ := h.ms
 have ni : ∀ {p C d : Addr} {l : List (Str × V)}, H p = some (.ins C d l) → p ≠ A.pa := fun e => ne_of e h.ha (by simp)
 obtain ⟨s, sp, ew⟩ := h.ws.ins
 exact ⟨by rw [upd_ne (ni h.hx)]; exact h.hx, by rw [upd_ne (ne_of h.ht h.ha (by simp))]; exact h.ht, by rw [upd_ne h.ka]; exact h.hk, by rw [upd_ne h.fa]; exact h.hf, upd_same, h.ws.keep (fun o' e => by rw [upd_ne (ni ew)]; exact e) (fun t l e => by rw [upd_ne (ne_of e h.ha (by simp))]; exact e), ⟨by rw [upd_ne (ni e1)]; exact e1, hi⟩, h.kf, h.ka, h.fa, h.xw, h.xm, h.wm⟩
theorem Fr7.none {CS CW CM x p : Addr} {H H' : Hp} {A : Ad} {z : Sd} (f : Fr7 x A H H') (h : SdAt CS CW CM H' x A z) (e : H' p = none) : H p = none := by
 obtain ⟨s, sp, ew⟩ := h.ws.ins
 obtain ⟨em, _⟩ := h.ms
 cases q : H p with
 | none => rfl
 | some u =>
  have nn : ∀ {b : Addr} {o : HO}, H' b = some o → p ≠ b := fun {b o} eb c => by rw [c, eb] at e; cases e
  rw [f p u q (nn h.hx) (nn ew) (nn em) (nn h.ht) (nn h.hk) (nn h.hf) (nn h.ha)] at e
  cases e
noncomputable def Clk (c : V) (n : Int) (r : Bool) : Prop := (c = .non ∧ r = false) ∨ ∃ i, c = .int i ∧ r = decide (i ≤ n)
structure Bz (z : Sd) : Prop where
 b0 : 0 ≤ z.b
 bt : z.b ≤ z.t
 t1 : z.t ≤ 900
noncomputable def sp_Sender_put  (C_Sender : Addr) (C_Ways : Addr) (C_Meter : Addr) : Sp := fun vs H Q E => match vs with
 | [.ref x, th] => ∃ A z, SdAt C_Sender C_Ways C_Meter H x A z ∧ z.T.length < 1000 ∧ ∀ H', But A.pt H H' → SdAt C_Sender C_Ways C_Meter H' x A { z with T := z.T ++ [th] } → Q .non H'
 | _ => False
noncomputable def sp_Sender_many  (C_Sender : Addr) (C_Ways : Addr) (C_Meter : Addr) : Sp := fun vs H Q E => match vs with
 | [.ref x] => ∃ A z, SdAt C_Sender C_Ways C_Meter H x A z ∧ Q (.int z.T.length) H
 | _ => False
noncomputable def sp_Sender_thing  (C_Sender : Addr) (C_Ways : Addr) (C_Meter : Addr) : Sp := fun vs H Q E => match vs with
 | [.ref x, .int p] => ∃ A z v, SdAt C_Sender C_Ways C_Meter H x A z ∧ atI z.T p = some v ∧ Q v H
 | _ => False
noncomputable def sp_Sender_known_above_base  (C_Sender : Addr) (C_Ways : Addr) (C_Meter : Addr) : Sp := fun vs H Q E => match vs with
 | [.ref x] => ∃ A z, SdAt C_Sender C_Ways C_Meter H x A z ∧ Bz z ∧ ∀ H', Same H H' → Q (.int (kab z)) H'
 | _ => False
noncomputable def sp_Sender_under_way  (C_Sender : Addr) (C_Ways : Addr) (C_Meter : Addr) : Sp := fun vs H Q E => match vs with
 | [.ref x] => ∃ A z, SdAt C_Sender C_Ways C_Meter H x A z ∧ Bz z ∧ ∀ H', Same H H' → Q (.int (z.t - z.b - kab z)) H'
 | _ => False
noncomputable def sp_Sender_thing_waits  (C_Sender : Addr) (C_Ways : Addr) (C_Meter : Addr) : Sp := fun vs H Q E => match vs with
 | [.ref x] => ∃ A z, SdAt C_Sender C_Ways C_Meter H x A z ∧ Q (.bl (decide (z.t < z.T.length))) H
 | _ => False
noncomputable def sp_Sender_hurry_is_due  (C_Sender : Addr) (C_Ways : Addr) (C_Meter : Addr) : Sp := fun vs H Q E => match vs with
 | [.ref x] => ∃ A z, SdAt C_Sender C_Ways C_Meter H x A z ∧ Bz z ∧ ∀ H', Same H H' → Q (.bl (decide (z.b < z.t) && !z.hur && decide ((2 : Int) ≤ kab z))) H'
 | _ => False
noncomputable def sp_Sender_new_may_go  (C_Sender : Addr) (C_Ways : Addr) (C_Meter : Addr) : Sp := fun vs H Q E => match vs with
 | [.ref x] => ∃ A z, SdAt C_Sender C_Ways C_Meter H x A z ∧ Bz z ∧ ∀ H', Same H H' → Q (.bl (decide (z.t < z.T.length) && decide (z.t < z.e) && decide (z.t - z.b - kab z < z.wi))) H'
 | _ => False
noncomputable def sp_Sender_newly_known  (C_Sender : Addr) (C_Ways : Addr) (C_Meter : Addr) : Sp := fun vs H Q E => match vs with
 | [.ref x, .ref l] => ∃ A z, ∃ ps : List Int, SdAt C_Sender C_Ways C_Meter H x A z ∧ H l = some (.lst (ps.map V.int)) ∧ z.Kn.length < 1000000 ∧ ps.length ≤ 1000 ∧ ∀ p H', H p = none → Fr6 x A H H' → SdAt C_Sender C_Ways C_Meter H' x A { z with Kn := putAll z.Kn (frs z.Kn ps) } → H' p = some (.lst ((frs z.Kn ps).map V.int)) → Q (.ref p) H'
 | _ => False
noncomputable def sp_Sender_set_clock  (C_Sender : Addr) (C_Ways : Addr) (C_Meter : Addr) : Sp := fun vs H Q E => match vs with
 | [.ref x, .int n] => ∃ A z, SdAt C_Sender C_Ways C_Meter H x A z ∧ ∀ H', But x H H' → SdAt C_Sender C_Ways C_Meter H' x A { z with clk := .int (n + z.w) } → Q .non H'
 | _ => False
noncomputable def sp_Sender_grow_base  (C_Sender : Addr) (C_Ways : Addr) (C_Meter : Addr) : Sp := fun vs H Q E => match vs with
 | [.ref x, .int st] => ∃ A z, SdAt C_Sender C_Ways C_Meter H x A z ∧ Bz z ∧ (0 ≤ st ∧ st ≤ z.t - z.b) ∧ z.Kn.length < 1000000 ∧ ∀ fs p H', fs = frs z.Kn (irg z.b st.toNat) → H p = none → Fr6 x A H H' → SdAt C_Sender C_Ways C_Meter H' x A { z with b := z.b + st, Kn := putAll z.Kn fs } → H' p = some (.lst (fs.map V.int)) → Q (.ref p) H'
 | _ => False
noncomputable def sp_Sender_note_held  (C_Sender : Addr) (C_Ways : Addr) (C_Meter : Addr) : Sp := fun vs H Q E => match vs with
 | [.ref x, .ref t] => ∃ A z, ∃ hs : List Int, SdAt C_Sender C_Ways C_Meter H x A z ∧ H t = some (.tup (hs.map V.int)) ∧ hs.length ≤ 1000 ∧ z.Kn.length < 1000000 ∧ ∀ fs p H', fs = frs z.Kn (hld z hs) → H p = none → Fr6 x A H H' → SdAt C_Sender C_Ways C_Meter H' x A { z with Kn := putAll z.Kn fs } → H' p = some (.lst (fs.map V.int)) → Q (.ref p) H'
 | _ => False
noncomputable def sp_Sender_go_again  (C_Sender : Addr) (C_Ways : Addr) (C_Meter : Addr) : Sp := fun vs H Q E => match vs with
 | [.ref x, .int n] => ∃ A z, SdAt C_Sender C_Ways C_Meter H x A z ∧ z.Ag.length < 1000000 ∧ ∀ p H', H p = none → Fr7 x A H H' → SdAt C_Sender C_Ways C_Meter H' x A { z with clk := .int (n + z.w), hur := true, Ag := putK z.Ag (ik z.b) (.bl true) } → H' p = some (.tup [.str "again", .int z.b]) → Q (.ref p) H'
 | _ => False
noncomputable def sp_Sender_clock_is_out  (C_Sender : Addr) (C_Ways : Addr) (C_Meter : Addr) : Sp := fun vs H Q E => match vs with
 | [.ref x, .int n] => ∃ A z r, SdAt C_Sender C_Ways C_Meter H x A z ∧ Clk z.clk n r ∧ Q (.bl r) H
 | _ => False
noncomputable def sp_Sender_go_new  (C_Sender : Addr) (C_Ways : Addr) (C_Meter : Addr) : Sp := fun vs H Q E => match vs with
 | [.ref x, .int n] => ∃ A z, SdAt C_Sender C_Ways C_Meter H x A z ∧ z.Fi.length < 1000000 ∧ ∀ p H', H p = none → Fr6 x A H H' → SdAt C_Sender C_Ways C_Meter H' x A { z with clk := if z.b = z.t then .int (n + z.w) else z.clk, t := z.t + 1, Fi := putK z.Fi (ik z.t) (.int n) } → H' p = some (.tup [.str "new", .int z.t]) → Q (.ref p) H'
 | _ => False
noncomputable def w2 (z : Sd) : Int := if z.L < 2 * z.w then z.L else 2 * z.w
theorem WS.ran {C p dx : Addr} {H : Hp} {L w : Int} {g : Wg} {k : Nat} (h : WS C H p dx L w g k) : ∃ s sp, H p = some (.ins C dx (fl_Ways (V.int L) s sp (V.int w))) ∧ WS C (upd H p (.ins C dx (fl_Ways (V.int L) s sp (V.int (if L < 2 * w then L else 2 * w))))) p dx L (if L < 2 * w then L else 2 * w) g k := by
 obtain ⟨h0, h1, ⟨a1, a2, a3⟩ | ⟨n, P, S, D, a, A, b, B, b0, b1, b2, ⟨ps, pp, g1, g2, g3⟩⟩⟩ := h
 ·exact ⟨_, _, a3, h0, by split <;> omega, .inl ⟨a1, a2, upd_same⟩⟩
 ·exact ⟨_, _, g1, h0, by split <;> omega, .inr ⟨n, P, S, D, a, A, b, B, b0, b1, b2, ⟨ps, pp, upd_same, by rw [upd_ne (ne_of g2 g1 (by simp))]; exact g2, by rw [upd_ne (ne_of g3 g1 (by simp))]; exact g3⟩⟩⟩
noncomputable def outC (c : V) (n : Int) : Bool := match c with
 | .int i => decide (i ≤ n)
 | _ => false
noncomputable def hryD (z : Sd) : Bool := decide (z.b < z.t) && !z.hur && decide ((2 : Int) ≤ kab z)
noncomputable def newM (z : Sd) : Bool := decide (z.t < z.T.length) && decide (z.t < z.e) && decide (z.t - z.b - kab z < z.wi)
noncomputable def lateZ (z : Sd) (n : Int) : Sd := { z with w := w2 z, wi := 1, kn := MeterM.hf z.wi, co := 0, clk := .int (n + w2 z), hur := true, Ag := putK z.Ag (ik z.b) (.bl true) }
noncomputable def hryZ (z : Sd) (n : Int) : Sd := { z with wi := MeterM.hf z.wi, kn := MeterM.hf z.wi, co := 0, clk := .int (n + z.w), hur := true, Ag := putK z.Ag (ik z.b) (.bl true) }
noncomputable def newZ (z : Sd) (n : Int) : Sd := { z with clk := if z.b = z.t then .int (n + z.w) else z.clk, t := z.t + 1, Fi := putK z.Fi (ik z.t) (.int n) }
noncomputable def askZ (z : Sd) (n : Int) : Sd := { z with w := w2 z, clk := .int (n + w2 z) }
noncomputable def setZ (z : Sd) (n : Int) : Sd := { z with clk := .int (n + z.w) }
noncomputable def AsX (z z' : Sd) (n : Int) (v : V) (H H' : Hp) : Prop := (z.clk = .non ∧ z' = setZ z n ∧ v = .non) ∨ (∃ i, z.clk = .int i ∧ n < i ∧ z' = z ∧ v = .non) ∨ (∃ i, z.clk = .int i ∧ i ≤ n ∧ z' = askZ z n ∧ ∃ p, v = .ref p ∧ H p = none ∧ H' p = some (.tup [.str "ask", .non]))
noncomputable def GoX (z z' : Sd) (n : Int) (v : V) (H H' : Hp) : Prop :=
 (z.b < z.t ∧ outC z.clk n = true ∧ z' = lateZ z n ∧ ∃ p, v = .ref p ∧ H p = none ∧ H' p = some (.tup [.str "again", .int z.b])) ∨
 ((z.b < z.t → outC z.clk n = false) ∧ ((hryD z = true ∧ z' = hryZ z n ∧ ∃ p, v = .ref p ∧ H p = none ∧ H' p = some (.tup [.str "again", .int z.b])) ∨
  (hryD z = false ∧ ((newM z = true ∧ z' = newZ z n ∧ ∃ p, v = .ref p ∧ H p = none ∧ H' p = some (.tup [.str "new", .int z.t])) ∨
   (newM z = false ∧ ((z.t < z.T.length ∧ z.b = z.t ∧ AsX z z' n v H H') ∨ (¬ (z.t < z.T.length ∧ z.b = z.t) ∧ z' = z ∧ v = .non)))))))
theorem AsX.fr {z z' : Sd} {n : Int} {v : V} {H H0 H' : Hp} (h : AsX z z' n v H H') (f : ∀ p, H p = none → H0 p = none) : AsX z z' n v H0 H' := by
 rcases h with h | h | ⟨i, h1, h2, h3, p, h4, h5, h6⟩
 ·exact .inl h
 ·exact .inr (.inl h)
 ·exact .inr (.inr ⟨i, h1, h2, h3, p, h4, f p h5, h6⟩)
noncomputable def sp_Sender_ask_for_room  (C_Sender : Addr) (C_Ways : Addr) (C_Meter : Addr) : Sp := fun vs H Q E => match vs with
 | [.ref x, .int n] => ∃ A z, SdAt C_Sender C_Ways C_Meter H x A z ∧ (z.clk = .non ∨ ∃ i, z.clk = .int i) ∧ ∀ v H' z', Fr7 x A H H' → SdAt C_Sender C_Ways C_Meter H' x A z' → AsX z z' n v H H' → Q v H'
 | _ => False
noncomputable def sp_Sender_go  (C_Sender : Addr) (C_Ways : Addr) (C_Meter : Addr) : Sp := fun vs H Q E => match vs with
 | [.ref x, .int n] => ∃ A z, SdAt C_Sender C_Ways C_Meter H x A z ∧ Bz z ∧ (z.clk = .non ∨ ∃ i, z.clk = .int i) ∧ z.Ag.length < 1000000 ∧ z.Fi.length < 1000000 ∧ ∀ v H' z', Fr7 x A H H' → SdAt C_Sender C_Ways C_Meter H' x A z' → GoX z z' n v H H' → Q v H'
 | _ => False
noncomputable def cnt (D : List (Key × V)) (t : Nat) : Nat := ((List.range t).filter fun j : Nat => knw D (j : Int)).length
theorem cnt_le {D : List (Key × V)} {t : Nat} : cnt D t ≤ t := by
 unfold cnt
 exact Nat.le_trans (List.length_filter_le _ _) (by rw [List.length_range]; exact Nat.le_refl _)
theorem cnt_succ {D : List (Key × V)} {t : Nat} : cnt D (t + 1) = cnt D t + if knw D (t : Int) then 1 else 0 := by
 unfold cnt
 rw [List.range_succ, List.filter_append, List.length_append]
 congr 1
 rw [List.filter_cons]
 split <;> simp
theorem knw_put {D : List (Key × V)} {a b : Int} {v : V} : knw (putK D (ik a) v) b = (decide (b = a) || knw D b) := by
 unfold knw
 rw [valV_put]
 by_cases c : b = a
 ·subst c; rw [if_pos rfl]; simp
 ·rw [if_neg (by intro h; exact c (by injection h))]; simp [c]
theorem cnt_put {D : List (Key × V)} {a : Int} {v : V} (h : knw D a = false) (h0 : 0 ≤ a) : ∀ {t : Nat}, cnt (putK D (ik a) v) t = cnt D t + if a < (t : Int) then 1 else 0
 | 0 => by show 0 = 0 + _; rw [if_neg (by omega)]
 | t + 1 => by
  rw [cnt_succ, cnt_succ, cnt_put h h0 (t := t), knw_put]
  by_cases c : (t : Int) = a
  ·subst c
   rw [h]
   simp
   omega
  ·have e : (decide ((t : Int) = a) || knw D (t : Int)) = knw D (t : Int) := by simp [c]
   rw [e]
   generalize (if knw D (t : Int) = true then 1 else 0) = gk
   by_cases c2 : a < (t : Int)
   ·rw [if_pos c2, if_pos (show a < ((t + 1 : Nat) : Int) by omega)]; omega
   ·rw [if_neg c2, if_neg (show ¬ a < ((t + 1 : Nat) : Int) by omega)]; omega
theorem cnt_all {t : Nat} : ∀ {fs : List Int} {D : List (Key × V)}, fs.Nodup → (∀ a ∈ fs, knw D a = false ∧ 0 ≤ a ∧ a < (t : Int)) → cnt (putAll D fs) t = cnt D t + fs.length
 | [], _, _, _ => rfl
 | a :: l, D, hn, h => by
  obtain ⟨h1, h2, h3⟩ := h a (List.mem_cons_self ..)
  obtain ⟨n1, n2⟩ := List.nodup_cons.mp hn
  show cnt (putAll (putK D (ik a) (.bl true)) l) t = _
  rw [cnt_all n2 (fun b hb => ?_), cnt_put h1 h2, if_pos h3, List.length_cons]
  ·omega
  ·obtain ⟨k1, k2, k3⟩ := h b (List.mem_cons_of_mem _ hb)
   have : b ≠ a := fun e => n1 (by rw [← e]; exact hb)
   exact ⟨by rw [knw_put, k1]; simp [this], k2, k3⟩
theorem irg_nodup {b : Int} {n : Nat} : (irg b n).Nodup := by
 unfold irg
 unfold List.Nodup
 rw [List.pairwise_map]
 exact (List.nodup_range (n := n)).imp fun h e => h (by omega)
theorem irg_mem {b a : Int} {n : Nat} (h : a ∈ irg b n) : b ≤ a ∧ a < b + n := by
 unfold irg at h
 obtain ⟨j, hj, rfl⟩ := List.mem_map.mp h
 have := List.mem_range.mp hj
 omega
theorem hld_nodup {z : Sd} {hs : List Int} (h : hs.Nodup) : (hld z hs).Nodup := by
 unfold hld
 unfold List.Nodup
 rw [List.pairwise_map]
 exact (List.Pairwise.filter _ h).imp fun h e => h (by omega)
theorem hld_mem {z : Sd} {hs : List Int} {a : Int} (h : a ∈ hld z hs) : a < z.t ∧ ∃ k ∈ hs, a = z.b + k := by
 unfold hld at h
 obtain ⟨k, hk, rfl⟩ := List.mem_map.mp h
 obtain ⟨m1, m2⟩ := List.mem_filter.mp hk
 exact ⟨by simpa using m2, k, m1, rfl⟩
theorem frs_mem {D : List (Key × V)} {ps : List Int} {a : Int} (h : a ∈ frs D ps) : a ∈ ps ∧ knw D a = false := by
 unfold frs at h
 obtain ⟨m1, m2⟩ := List.mem_filter.mp h
 exact ⟨m1, by simpa using m2⟩
noncomputable def Tq (z : Sd) (tn : Int) : Prop := ∀ j : Int, 0 ≤ j → j < z.t → ∃ f, valV z.Fi (ik j) = some (.int f) ∧ 0 ≤ tn - f ∧ tn - f ≤ 1000000
noncomputable def far' (z : Sd) (nu : Int) : Int := (nu - z.b) % z.R
noncomputable def f1' (z : Sd) (nu : Int) : List Int := frs z.Kn (irg z.b (far' z nu).toNat)
noncomputable def z1' (z : Sd) (nu : Int) : Sd := { z with b := z.b + far' z nu, Kn := putAll z.Kn (f1' z nu) }
noncomputable def f2' (z : Sd) (nu : Int) (hs : List Int) : List Int := frs (z1' z nu).Kn (hld (z1' z nu) hs)
noncomputable def fsh (z : Sd) (nu : Int) (hs : List Int) : List Int := f1' z nu ++ f2' z nu hs
noncomputable def fstT (z : Sd) (p : Int) : Int := match valV z.Fi (ik p) with
 | some (.int f) => f
 | _ => 0
noncomputable abbrev Ws := Int × Wg × Nat
noncomputable def ms1 (z : Sd) (tn : Int) (s : Ws) (p : Int) : Ws := if knw z.Ag p then s else (mws z.L (mgs s.2.1 (tn - fstT z p)), mgs s.2.1 (tn - fstT z p), s.2.2 + 1)
noncomputable def mall (z : Sd) (tn : Int) (fs : List Int) : Ws := fs.foldl (ms1 z tn) (z.w, z.g, z.k)
theorem mall_snoc {z : Sd} {tn c : Int} {fs : List Int} : mall z tn (fs ++ [c]) = ms1 z tn (mall z tn fs) c := by unfold mall; rw [List.foldl_append]; rfl
noncomputable def hrd (z : Sd) (nu rm : Int) (hs : List Int) (tn : Int) : Sd :=
 ⟨z.R, z.b + far' z nu, z.t, if z.e < z.b + far' z nu + rm then z.b + far' z nu + rm else z.e, if 0 < far' z nu then (if z.b + far' z nu < z.t then .int (tn + (mall z tn (fsh z nu hs)).1) else .non) else z.clk, if 0 < far' z nu then false else z.hur, z.T, putAll (z1' z nu).Kn (f2' z nu hs), z.Fi, z.Ag, z.L, (mall z tn (fsh z nu hs)).1, (mall z tn (fsh z nu hs)).2.2, (MeterM.kn z.mo z.kn (fsh z nu hs).length (z.wi, z.co)).1, (mall z tn (fsh z nu hs)).2.1, z.mo, z.kn, (MeterM.kn z.mo z.kn (fsh z nu hs).length (z.wi, z.co)).2⟩
noncomputable def sp_Sender_heard  (C_Sender : Addr) (C_Ways : Addr) (C_Meter : Addr) : Sp := fun vs H Q E => match vs with
 | [.ref x, .int nu, .int rm, .ref hd, .int tn] => ∃ A z, ∃ hs : List Int, SdAt C_Sender C_Ways C_Meter H x A z ∧ Bz z ∧ 0 < z.R ∧ H hd = some (.tup (hs.map V.int)) ∧ hs.length ≤ 100 ∧ hs.Nodup ∧ (∀ k ∈ hs, 0 ≤ k) ∧ Tq z tn ∧ z.Kn.length < 900000 ∧ z.t ≤ 390 ∧ z.k ≤ cnt z.Kn z.t.toNat ∧ ∀ p H', H p = none → Fr7 x A H H' → ((z.t - z.b < far' z nu ∧ Same H H' ∧ H' p = some (.lst [])) ∨ (far' z nu ≤ z.t - z.b ∧ SdAt C_Sender C_Ways C_Meter H' x A (hrd z nu rm hs tn) ∧ H' p = some (.lst ((fsh z nu hs).map V.int)))) → Q (.ref p) H'
 | _ => False
noncomputable def sp_Sender___init__  (C_Sender : Addr) (C_Ways : Addr) (C_Meter : Addr) : Sp := fun vs H Q E => match vs with
 | [.ref x, .int r, .int f, .int l, .int m] => (2 ≤ f ∧ f ≤ l ∧ 1 ≤ m) ∧ ∃ dx, H x = some (.ins C_Sender dx []) ∧ ∀ A H', But x H H' → SdAt C_Sender C_Ways C_Meter H' x A ⟨r, 0, 0, 1, .non, false, [], [], [], [], l, f, 0, MeterM.mn 2 m, none, m, m, 0⟩ → Q .non H'
 | _ => False
structure Gk (z z' : Sd) : Prop where
 R : z'.R = z.R
 L : z'.L = z.L
 b : z'.b = z.b
 e : z'.e = z.e
 T : z'.T = z.T
 Kn : z'.Kn = z.Kn
 k : z'.k = z.k
 g : z'.g = z.g
 ck : z'.clk = .non ∨ ∃ i, z'.clk = .int i
theorem GoX.gk {z z' : Sd} {n : Int} {v : V} {H H' : Hp} (o : GoX z z' n v H H') (hc : z.clk = .non ∨ ∃ i, z.clk = .int i) : Gk z z' := by
 rcases o with ⟨_, _, rfl, _⟩ | ⟨_, ⟨_, rfl, _⟩ | ⟨_, ⟨_, rfl, _⟩ | ⟨_, ⟨_, _, ⟨_, rfl, _⟩ | ⟨i, h, _, rfl, _⟩ | ⟨i, _, _, rfl, _⟩⟩ | ⟨_, rfl, _⟩⟩⟩⟩
 ·exact ⟨rfl, rfl, rfl, rfl, rfl, rfl, rfl, rfl, .inr ⟨_, rfl⟩⟩
 ·exact ⟨rfl, rfl, rfl, rfl, rfl, rfl, rfl, rfl, .inr ⟨_, rfl⟩⟩
 ·refine ⟨rfl, rfl, rfl, rfl, rfl, rfl, rfl, rfl, ?_⟩
  show (if z.b = z.t then V.int (n + z.w) else z.clk) = .non ∨ ∃ i, (if z.b = z.t then V.int (n + z.w) else z.clk) = .int i
  split
  ·exact .inr ⟨_, rfl⟩
  ·exact hc
 ·exact ⟨rfl, rfl, rfl, rfl, rfl, rfl, rfl, rfl, .inr ⟨_, rfl⟩⟩
 ·exact ⟨rfl, rfl, rfl, rfl, rfl, rfl, rfl, rfl, hc⟩
 ·exact ⟨rfl, rfl, rfl, rfl, rfl, rfl, rfl, rfl, .inr ⟨_, rfl⟩⟩
 ·exact ⟨rfl, rfl, rfl, rfl, rfl, rfl, rfl, rfl, hc⟩
noncomputable def GoR (z z' : Sd) (n : Int) (v : V) (H H' : Hp) : Prop := (v = .non ∧ z'.t = z.t ∧ z'.Fi = z.Fi ∧ z'.Ag = z.Ag) ∨ ∃ p, v = .ref p ∧ H p = none ∧ ((H' p = some (.tup [.str "again", .int z.b]) ∧ z.b < z.t ∧ z'.t = z.t ∧ z'.Fi = z.Fi ∧ z'.Ag = putK z.Ag (ik z.b) (.bl true)) ∨ (H' p = some (.tup [.str "new", .int z.t]) ∧ z.t < z.T.length ∧ z.t < z.e ∧ z'.t = z.t + 1 ∧ z'.Fi = putK z.Fi (ik z.t) (.int n) ∧ z'.Ag = z.Ag) ∨ (H' p = some (.tup [.str "ask", .non]) ∧ z.b = z.t ∧ z.t < z.T.length ∧ z.e ≤ z.t ∧ z'.t = z.t ∧ z'.Fi = z.Fi ∧ z'.Ag = z.Ag))
theorem GoX.r {z z' : Sd} {n : Int} {v : V} {H H' : Hp} (o : GoX z z' n v H H') (hw : 1 ≤ z.wi) : GoR z z' n v H H' := by
 rcases o with ⟨h1, _, rfl, p, h2, h3, h4⟩ | ⟨_, ⟨hh, rfl, p, h2, h3, h4⟩ | ⟨_, ⟨hn, rfl, p, h2, h3, h4⟩ | ⟨hn, ⟨a1, a2, ⟨_, rfl, h2⟩ | ⟨i, _, _, rfl, h2⟩ | ⟨i, _, _, rfl, p, h2, h3, h4⟩⟩ | ⟨_, rfl, h2⟩⟩⟩⟩
 ·exact .inr ⟨p, h2, h3, .inl ⟨h4, h1, rfl, rfl, rfl⟩⟩
 ·unfold hryD at hh
  rw [Bool.and_eq_true, Bool.and_eq_true, decide_eq_true_eq] at hh
  exact .inr ⟨p, h2, h3, .inl ⟨h4, hh.1.1, rfl, rfl, rfl⟩⟩
 ·unfold newM at hn
  rw [Bool.and_eq_true, Bool.and_eq_true, decide_eq_true_eq, decide_eq_true_eq] at hn
  exact .inr ⟨p, h2, h3, .inr (.inl ⟨h4, hn.1.1, hn.1.2, rfl, rfl, rfl⟩)⟩
 ·exact .inl ⟨h2, rfl, rfl, rfl⟩
 ·exact .inl ⟨h2, rfl, rfl, rfl⟩
 ·refine .inr ⟨p, h2, h3, .inr (.inr ⟨h4, a2, a1, ?_, rfl, rfl, rfl⟩)⟩
  by_cases c3 : z.t < z.e
  ·exfalso
   have k0 : kab z = 0 := by have := kab_le (z := z); omega
   unfold newM at hn
   rw [decide_eq_true a1, decide_eq_true c3, decide_eq_true (by omega)] at hn
   cases hn
  ·omega
 ·exact .inl ⟨h2, rfl, rfl, rfl⟩
structure Hk (z z' : Sd) (nu rm : Int) (hs : List Int) : Prop where
 R : z'.R = z.R
 L : z'.L = z.L
 t : z'.t = z.t
 T : z'.T = z.T
 Fi : z'.Fi = z.Fi
 Ag : z'.Ag = z.Ag
 b : z'.b = z.b + far' z nu
 e : z'.e = if z.e < z.b + far' z nu + rm then z.b + far' z nu + rm else z.e
 Kn : z'.Kn = putAll (z1' z nu).Kn (f2' z nu hs)
 k : z'.k ≤ z.k + (f1' z nu).length + (f2' z nu hs).length
 ck : (z'.clk = .non ∨ ∃ i, z'.clk = .int i)
theorem mall_k {z : Sd} {tn : Int} : ∀ {fs : List Int} {s : Ws}, (fs.foldl (ms1 z tn) s).2.2 ≤ s.2.2 + fs.length
 | [], _ => Nat.le_refl _
 | a :: l, s => by
  have h1 := mall_k (z := z) (tn := tn) (fs := l) (s := ms1 z tn s a)
  have h2 : (ms1 z tn s a).2.2 ≤ s.2.2 + 1 := by
   unfold ms1
   split
   ·omega
   ·exact Nat.le_refl _
  show ((l.foldl (ms1 z tn) (ms1 z tn s a)).2.2) ≤ _
  rw [List.length_cons]
  omega
theorem hrd_k {z : Sd} {nu rm tn : Int} {hs : List Int} (hc : z.clk = .non ∨ ∃ i, z.clk = .int i) : Hk z (hrd z nu rm hs tn) nu rm hs := by
 refine ⟨rfl, rfl, rfl, rfl, rfl, rfl, rfl, rfl, rfl, ?_, ?_⟩
 ·have h1 : (hrd z nu rm hs tn).k ≤ z.k + (fsh z nu hs).length := mall_k (z := z) (tn := tn) (fs := fsh z nu hs) (s := (z.w, z.g, z.k))
  have h2 : (fsh z nu hs).length = (f1' z nu).length + (f2' z nu hs).length := List.length_append
  omega
 ·show (if 0 < far' z nu then (if z.b + far' z nu < z.t then V.int (tn + (mall z tn (fsh z nu hs)).1) else .non) else z.clk) = .non ∨ ∃ i, (if 0 < far' z nu then (if z.b + far' z nu < z.t then V.int (tn + (mall z tn (fsh z nu hs)).1) else .non) else z.clk) = .int i
  split
  ·split
   ·exact .inr ⟨_, rfl⟩
   ·exact .inl rfl
  ·exact hc
structure Jw (z : Sd) (r tn : Int) (s : Nat) : Prop where
 R : z.R = r
 r0 : 0 < r
 B : Bz z
 te : z.t ≤ z.e
 tm : z.t ≤ z.T.length
 tl : z.T.length ≤ 380
 k : z.k ≤ cnt z.Kn z.t.toNat
 kn : ∀ j : Int, z.t ≤ j → knw z.Kn j = false
 ck : z.clk = .non ∨ ∃ i, z.clk = .int i
 tq : ∀ j : Int, 0 ≤ j → j < z.t → ∃ f, valV z.Fi (ik j) = some (.int f) ∧ 0 ≤ f ∧ f ≤ tn
 tn0 : 0 ≤ tn
 tn1 : tn ≤ 20 * s
 s1 : z.Kn.length ≤ cnt z.Kn z.t.toNat
 s2 : z.Fi.length ≤ s
 s3 : z.Ag.length ≤ s
theorem Jw.turn {z : Sd} {r tn d : Int} {s : Nat} (h : Jw z r tn s) (h0 : 0 ≤ d) (h1 : d ≤ 20) : Jw z r (tn + d) (s + 1) := by
 have e1 := h.tn0
 have e2 := h.tn1
 have e3 := h.s1
 have e4 := h.s2
 have e5 := h.s3
 exact ⟨h.R, h.r0, h.B, h.te, h.tm, h.tl, h.k, h.kn, h.ck, fun j a b => by
  obtain ⟨f, q1, q2, q3⟩ := h.tq j a b
  exact ⟨f, q1, q2, by omega⟩, by omega, by omega, h.s1, by omega, by omega⟩
theorem Jw.put {z : Sd} {r tn : Int} {s : Nat} {v : V} (h : Jw z r tn s) (h1 : z.T.length < 380) : Jw { z with T := z.T ++ [v] } r tn s := by
 have e1 := h.tm
 exact ⟨h.R, h.r0, ⟨h.B.b0, h.B.bt, h.B.t1⟩, h.te, by show z.t ≤ ((z.T ++ [v]).length : Int); rw [List.length_append, List.length_singleton]; omega, by show (z.T ++ [v]).length ≤ 380; rw [List.length_append, List.length_singleton]; omega, h.k, h.kn, h.ck, h.tq, h.tn0, h.tn1, h.s1, h.s2, h.s3⟩
theorem cnt_mono {D : List (Key × V)} {t : Nat} : cnt D t ≤ cnt D (t + 1) := by rw [cnt_succ]; omega
theorem Jw.go {z z' : Sd} {r tn : Int} {s : Nat} {v : V} {H H' : Hp} (h : Jw z r tn s) (g : Gk z z') (o : GoR z z' tn v H H') : Jw z' r tn (s + 1) ∧ z.t ≤ z'.t := by
 have e0 := h.B.b0
 have e1 := h.tn1
 have e3 := h.s1
 have e4 := h.s2
 have e5 := h.s3
 have e6 := h.B.bt
 have e7 := h.tl
 have e8 := h.tm
 have same : z'.t = z.t → z'.Fi = z.Fi → z'.Ag.length ≤ s + 1 → Jw z' r tn (s + 1) ∧ z.t ≤ z'.t := fun a1 a2 a3 =>
  ⟨⟨g.R.trans h.R, h.r0, ⟨by rw [g.b]; exact h.B.b0, by rw [g.b, a1]; exact h.B.bt, by rw [a1]; exact h.B.t1⟩, by rw [a1, g.e]; exact h.te, by rw [a1, g.T]; exact h.tm, by rw [g.T]; exact h.tl, by rw [g.k, g.Kn, a1]; exact h.k, fun j hj => by rw [g.Kn]; exact h.kn j (by omega), g.ck, fun j a b => by rw [a2]; exact h.tq j a (by omega), h.tn0, by omega, by rw [g.Kn, a1]; exact h.s1, by rw [a2]; omega, a3⟩, by omega⟩
 rcases o with ⟨_, a1, a2, a3⟩ | ⟨p, _, _, ⟨_, _, a1, a2, a3⟩ | ⟨_, b1, b2, a1, a2, a3⟩ | ⟨_, _, _, _, a1, a2, a3⟩⟩
 ·exact same a1 a2 (by rw [a3]; omega)
 ·exact same a1 a2 (by rw [a3]; have := length_putK z.Ag (ik z.b) (.bl true); omega)
 ·have ec : z'.t.toNat = z.t.toNat + 1 := by omega
  refine ⟨⟨g.R.trans h.R, h.r0, ⟨by rw [g.b]; exact h.B.b0, by rw [g.b, a1]; omega, by omega⟩, by rw [g.e]; omega, by rw [g.T]; omega, by rw [g.T]; exact h.tl, by rw [g.k, g.Kn, ec]; exact Nat.le_trans h.k cnt_mono, fun j hj => by rw [g.Kn]; exact h.kn j (by omega), g.ck, fun j a b => ?_, h.tn0, by omega, by rw [g.Kn, ec]; exact Nat.le_trans h.s1 cnt_mono, by rw [a2]; have := length_putK z.Fi (ik z.t) (.int tn); omega, by rw [a3]; omega⟩, by omega⟩
  rw [a2, valV_put]
  by_cases c : j = z.t
  ·subst c
   rw [if_pos rfl]
   exact ⟨tn, rfl, h.tn0, Int.le_refl _⟩
  ·rw [if_neg (by intro q; exact c (by injection q))]
   exact h.tq j a (by omega)
 ·exact same a1 a2 (by rw [a3]; omega)
theorem knw_all {j : Int} : ∀ {fs : List Int} {D : List (Key × V)}, (∀ a ∈ fs, a ≠ j) → knw (putAll D fs) j = knw D j
 | [], _, _ => rfl
 | a :: l, D, h => by
  show knw (putAll (putK D (ik a) (.bl true)) l) j = _
  rw [knw_all fun b hb => h b (List.mem_cons_of_mem _ hb), knw_put]
  have := h a (List.mem_cons_self ..)
  simp [this.symm]
theorem f1_len {z : Sd} {nu : Int} : (f1' z nu).length ≤ (far' z nu).toNat := by
 have h1 : (f1' z nu).length ≤ (irg z.b (far' z nu).toNat).length := List.length_filter_le _ _
 have h2 : (irg z.b (far' z nu).toNat).length = (far' z nu).toNat := by unfold irg; rw [List.length_map, List.length_range]
 omega
theorem f2_len {z : Sd} {nu : Int} {hs : List Int} : (f2' z nu hs).length ≤ hs.length := by
 have h1 : (f2' z nu hs).length ≤ (hld (z1' z nu) hs).length := List.length_filter_le _ _
 exact Nat.le_trans h1 hld_len
theorem Jw.hrd {z z' : Sd} {r tn nu rm : Int} {s : Nat} {hs : List Int} (h : Jw z r tn s) (hl : hs.length ≤ 100) (hn : hs.Nodup) (h0 : ∀ k ∈ hs, 0 ≤ k) (hf : far' z nu ≤ z.t - z.b) (g : Hk z z' nu rm hs) : Jw z' r tn s := by
 have r0 := h.r0
 have eR := h.R
 have far0 : 0 ≤ far' z nu := Int.emod_nonneg _ (by omega)
 have b0 := h.B.b0
 have bt := h.B.bt
 have e1 := h.tn1
 have e3 := h.s1
 have e4 := h.s2
 have e5 := h.s3
 have e7 := h.tl
 have e8 := h.tm
 have l1 := f1_len (z := z) (nu := nu)
 have l2 := f2_len (z := z) (nu := nu) (hs := hs)
 have m1 : ∀ a ∈ f1' z nu, knw z.Kn a = false ∧ 0 ≤ a ∧ a < (z.t.toNat : Int) := fun a ha => by
  obtain ⟨q1, q2⟩ := frs_mem ha
  have := irg_mem q1
  exact ⟨q2, by omega, by omega⟩
 have m2 : ∀ a ∈ f2' z nu hs, knw (z1' z nu).Kn a = false ∧ 0 ≤ a ∧ a < (z.t.toNat : Int) := fun a ha => by
  obtain ⟨q1, q2⟩ := frs_mem ha
  obtain ⟨q3, k, q4, q5⟩ := hld_mem q1
  have q6 := h0 k q4
  have q7 : a < z.t := q3
  have q8 : a = z.b + far' z nu + k := q5
  exact ⟨q2, by omega, by omega⟩
 have c1 : cnt (z1' z nu).Kn z.t.toNat = cnt z.Kn z.t.toNat + (f1' z nu).length := cnt_all (irg_nodup.filter _) m1
 have c2 : cnt (putAll (z1' z nu).Kn (f2' z nu hs)) z.t.toNat = cnt (z1' z nu).Kn z.t.toNat + (f2' z nu hs).length := cnt_all ((hld_nodup hn).filter _) m2
 have k1 : (z1' z nu).Kn.length ≤ z.Kn.length + (f1' z nu).length := putAll_len
 have k2 : (putAll (z1' z nu).Kn (f2' z nu hs)).length ≤ (z1' z nu).Kn.length + (f2' z nu hs).length := putAll_len
 have gk := g.k
 have hk := h.k
 have te := h.te
 refine ⟨g.R.trans h.R, h.r0, ⟨by rw [g.b]; omega, by rw [g.b, g.t]; omega, by rw [g.t]; exact h.B.t1⟩, by rw [g.t, g.e]; split <;> omega, by rw [g.t, g.T]; exact h.tm, by rw [g.T]; exact h.tl, by rw [g.Kn, g.t, c2, c1]; omega, fun j hj => ?_, g.ck, fun j a b => by rw [g.Fi]; exact h.tq j a (by rw [g.t] at b; exact b), h.tn0, by omega, by rw [g.Kn, g.t, c2, c1]; omega, by rw [g.Fi]; omega, by rw [g.Ag]; omega⟩
 rw [g.t] at hj
 rw [g.Kn, knw_all fun a ha => by have := (m2 a ha).2.2; omega]
 show knw (putAll z.Kn (f1' z nu)) j = false
 rw [knw_all fun a ha => by have := (m1 a ha).2.2; omega]
 exact h.kn j hj
structure Tk where
 R : Int
 M : Int
 g : Int
 o : Int
 D : List (Key × V)
structure TkAt (C : Addr) (H : Hp) (x dx pk : Addr) (z : Tk) : Prop where
 hx : H x = some (.ins C dx (fl_Taker (.int z.R) (.int z.M) (.int z.g) (.int z.o) (.ref pk)))
 hD : H pk = some (.dK z.D)
theorem TkAt.n1 {C x dx pk : Addr} {H : Hp} {z : Tk} (h : TkAt C H x dx pk z) : pk ≠ x := ne_of h.hD h.hx (by simp)
theorem TkAt.same {C x dx pk : Addr} {H H' : Hp} {z : Tk} (h : TkAt C H x dx pk z) (e : Same H H') : TkAt C H' x dx pk z := ⟨e _ _ h.hx, e _ _ h.hD⟩
theorem TkAt.put {C x dx pk : Addr} {H : Hp} {z : Tk} (h : TkAt C H x dx pk z) (R M g o : Int) : TkAt C (upd H x (.ins C dx (fl_Taker (.int R) (.int M) (.int g) (.int o) (.ref pk)))) x dx pk ⟨R, M, g, o, z.D⟩ := ⟨upd_same, by rw [upd_ne h.n1]; exact h.hD⟩
noncomputable def Fr2 (x pk : Addr) (H H' : Hp) : Prop := ∀ b u, H b = some u → b ≠ x → b ≠ pk → H' b = some u
noncomputable def vals (D : List (Key × V)) (g : Int) (n : Nat) : List V := (List.range n).map fun j : Nat => (valV D (ik (g + (j : Int)))).getD .non
theorem vals_succ {D : List (Key × V)} {g : Int} {n : Nat} {v : V} (h : valV D (ik (g + n)) = some v) : vals D g (n + 1) = vals D g n ++ [v] := by
 simp [vals, List.range_succ, h]
noncomputable def Run (D : List (Key × V)) (g : Int) (n : Nat) : Prop := (∀ j : Nat, j < n → (valV D (ik (g + j))).isSome = true) ∧ valV D (ik (g + n)) = none
theorem valV_drop {kvs : List (Key × V)} {k j : Key} : valV (dropK kvs k) j = if j = k then none else valV kvs j := by
 unfold valV dropK
 by_cases c : j = k
 ·rw [if_pos c, Option.map_eq_none_iff, List.find?_eq_none]
  intro a ha
  have := (List.mem_filter.mp ha).2
  subst c
  simpa using this
 ·rw [if_neg c]
  congr 1
  rw [List.find?_filter]
  congr 1
  funext a
  by_cases d : a.1 = j
  ·subst d; simp [c]
  ·simp [d]
noncomputable def heldL (D : List (Key × V)) (g : Int) (n : Nat) : List Int := ((List.range n).filter fun j : Nat => (valV D (ik (g + (1 + (j : Int))))).isSome).map (fun j : Nat => 1 + (j : Int))
theorem held_eq {D : List (Key × V)} {g : Int} {n : Nat} : List.map (fun v => v) (List.filter (fun v => match v with | V.int i => (valV D (ik (g + i))).isSome | _ => false) (rngV 1 n)) = (heldL D g n).map V.int := by
 unfold rngV heldL
 rw [List.filter_map, List.map_map, List.map_map]
 rfl
noncomputable def sp_ahead  : Sp := fun vs H Q E => match vs with
 | [.int r, .int a, .int b] => 0 < r ∧ Q (.int ((b - a) % r)) H
 | _ => False
noncomputable def sp_Taker___init__  (C_Taker : Addr) : Sp := fun vs H Q E => match vs with
 | [.ref x, .int r, .int m] => ∃ dx, H x = some (.ins C_Taker dx []) ∧ ∀ pk H', H pk = none → But x H H' → TkAt C_Taker H' x dx pk ⟨r, m, 0, 0, []⟩ → Q .non H'
 | _ => False
noncomputable def sp_Taker_room_left  (C_Taker : Addr) : Sp := fun vs H Q E => match vs with
 | [.ref x] => ∃ dx pk z, TkAt C_Taker H x dx pk z ∧ Q (.int (z.o + z.M - z.g)) H
 | _ => False
noncomputable def sp_Taker_stand_in_order  (C_Taker : Addr) : Sp := fun vs H Q E => match vs with
 | [.ref x] => ∃ dx pk z B, TkAt C_Taker H x dx pk z ∧ (∀ i, (valV z.D (ik i)).isSome = true → i < B) ∧ B ≤ z.g + 1000 ∧ ∀ n p H', Run z.D z.g n → H p = none → Fr2 x pk H H' → TkAt C_Taker H' x dx pk { z with g := z.g + n } → H' p = some (.lst (vals z.D z.g n)) → Q (.ref p) H'
 | _ => False
noncomputable def sp_Taker_take  (C_Taker : Addr) : Sp := fun vs H Q E => match vs with
 | [.ref x, .int m, .ref th] => ∃ dx pk z B, TkAt C_Taker H x dx pk z ∧ 0 < z.R ∧ (∀ i, (valV z.D (ik i)).isSome = true → i < B) ∧ B ≤ z.g + 1000 ∧ z.o + z.M ≤ B ∧ z.D.length < 1000 ∧ ((z.o + z.M - z.g ≤ (m - z.g) % z.R ∧ ∀ p l H', Same H H' → H p = none → H l = none → H' p = some (.tup [.non, .ref l]) → H' l = some (.lst []) → Q (.ref p) H') ∨ ((m - z.g) % z.R < z.o + z.M - z.g ∧ ∀ D', D' = (if (valV z.D (ik (z.g + (m - z.g) % z.R))).isSome then z.D else putK z.D (ik (z.g + (m - z.g) % z.R)) (.ref th)) → ∀ n p l H', Run D' z.g n → H p = none → H l = none → p ≠ l → Fr2 x pk H H' → TkAt C_Taker H' x dx pk ⟨z.R, z.M, z.g + n, z.o, D'⟩ → H' l = some (.lst (vals D' z.g n)) → H' p = some (.tup [.int (z.g + (m - z.g) % z.R), .ref l]) → Q (.ref p) H'))
 | _ => False
noncomputable def sp_Taker_answer  (C_Taker : Addr) : Sp := fun vs H Q E => match vs with
 | [.ref x] => ∃ dx pk z, TkAt C_Taker H x dx pk z ∧ 0 < z.R ∧ (0 ≤ z.o + z.M - z.g ∧ z.o + z.M - z.g ≤ 1000) ∧ ∀ p t hs H', Same H H' → hs = heldL z.D z.g (z.o + z.M - z.g - 1).toNat → H p = none → H t = none → H' t = some (.tup (hs.map V.int)) → H' p = some (.tup [.int (z.g % z.R), .int (z.o + z.M - z.g), .ref t]) → Q (.ref p) H'
 | _ => False
noncomputable def sp_Taker_read  (C_Taker : Addr) : Sp := fun vs H Q E => match vs with
 | [.ref x, .int m] => ∃ dx pk z, TkAt C_Taker H x dx pk z ∧ (0 ≤ m ∧ m ≤ 1000 ∧ 0 ≤ z.o ∧ z.o ≤ z.g ∧ z.g ≤ 10000) ∧ (∀ i, z.o ≤ i → i < z.g → (valV z.D (ik i)).isSome = true) ∧ ∀ n p D' H', n = ((if z.g < z.o + m then z.g else z.o + m) - z.o).toNat → H p = none → (∀ i, valV D' (ik i) = if z.o ≤ i ∧ i < z.o + n then none else valV z.D (ik i)) → D'.Sublist z.D → Fr2 x pk H H' → TkAt C_Taker H' x dx pk ⟨z.R, z.M, z.g, z.o + n, D'⟩ → H' p = some (.lst (vals z.D z.o n)) → Q (.ref p) H'
 | _ => False
noncomputable abbrev Own := Addr → Option (Nat × Int)
noncomputable def LaneAt (H : Hp) (d : Addr) (ln : Nat) (ow : Own) (P : Int → V → Prop) (m : Nat) : Prop := ∃ kvs : List (Key × V), H d = some (.dK kvs) ∧ kvs.length ≤ m ∧ ∀ i v, valV kvs (ik i) = some v → ∃ l xs, v = .ref l ∧ ow l = some (ln, i) ∧ H l = some (.lst xs) ∧ xs.length ≤ m ∧ ∀ x ∈ xs, P i x
theorem LaneAt.keep {H H' : Hp} {d : Addr} {ln : Nat} {ow ow' : Own} {P P' : Int → V → Prop} {m m' : Nat} (h : LaneAt H d ln ow P m) (hd : ∀ o, H d = some o → H' d = some o) (hl : ∀ l xs i, ow l = some (ln, i) → H l = some (.lst xs) → H' l = some (.lst xs) ∧ ow' l = ow l) (hp : ∀ i v, P i v → P' i v) (hm : m ≤ m') : LaneAt H' d ln ow' P' m' := by
 obtain ⟨kvs, h1, h2, h3⟩ := h
 refine ⟨kvs, hd _ h1, by omega, fun i v hv => ?_⟩
 obtain ⟨l, xs, g1, g2, g3, g4, g5⟩ := h3 i v hv
 obtain ⟨k1, k2⟩ := hl l xs i g2 g3
 exact ⟨l, xs, g1, by rw [k2]; exact g2, k1, by omega, fun x hx => hp i x (g5 x hx)⟩
noncomputable def OwD (H : Hp) (ow : Own) : Prop := ∀ b i, ow b = some i → ∃ l, H b = some (.lst l)
theorem OwD.nn {H : Hp} {ow : Own} (h : OwD H ow) {p : Addr} (e : H p = none) : ow p = none := by
 cases q : ow p with
 | none => rfl
 | some i => obtain ⟨u, hu⟩ := h p i q; rw [e] at hu; cases hu
noncomputable def LFr (d : Addr) (ln : Nat) (ow ow' : Own) (H H' : Hp) : Prop := (∀ b u, H b = some u → b ≠ d → (∀ i, ow b ≠ some (ln, i)) → H' b = some u) ∧ (∀ b u, H b = some u → ow' b = ow b)
theorem OwD.no {H : Hp} {ow : Own} (h : OwD H ow) {p : Addr} {o : HO} (e : H p = some o) (n : ∀ l, o ≠ .lst l) : ow p = none := by
 cases q : ow p with
 | none => rfl
 | some i => obtain ⟨u, hu⟩ := h p i q; rw [e] at hu; cases hu; exact absurd rfl (n u)
theorem putK_len {D : List (Key × V)} {k : Key} {v : V} (h : (valV D k).isSome = true) : (putK D k v).length = D.length := by
 unfold putK
 rw [if_pos, List.length_map]
 cases q : valV D k with
 | none => rw [q] at h; cases h
 | some w =>
  unfold valV at q
  obtain ⟨a, h1, h2⟩ := Option.map_eq_some_iff.mp q
  have h3 := List.find?_some h1
  have h4 := List.mem_of_find?_eq_some h1
  rw [List.any_eq_true]
  exact ⟨a, h4, by simpa using h3⟩
theorem same_tp {K : PySem.W.Frag} {H H' : Hp} {a : Addr} {xs : List V} (e : Same H H') (h : SqT K H a xs) : SqT K H' a xs := by
 rcases h with (h | ⟨o, h⟩) | h
 ·exact .inl (.inl (e _ _ h))
 ·exact .inl (.inr ⟨o, e _ _ h⟩)
 ·exact .inr h
theorem Den.same {K : PySem.W.Frag} {H H' : Hp} (e : Same H H') : ∀ {n : Nat} {x : V} {d : Dt}, Den K H n x d → Den K H' n x d
 | 0, _, _, h => h
 | n + 1, x, d, h => by
  rcases h with h | ⟨a, xs, ds, h1, h2, h3, h4⟩ | ⟨a, xs, ds, h1, h2, h3, h4⟩
  ·exact .inl (Den.same e h)
  ·refine .inr (.inl ⟨a, xs, ds, h1, h2, same_lst e h3, ?_⟩)
   exact Paired.imp' (fun u v hu => Den.same e hu) h4
  ·refine .inr (.inr ⟨a, xs, ds, h1, h2, same_tp e h3, ?_⟩)
   exact Paired.imp' (fun u v hu => Den.same e hu) h4
noncomputable def Gr (M t X k e : Int) : Prop := (M = 1 ∧ 2 * (t - X - 1) ≤ k + e) ∨ (2 ≤ M ∧ t - X - M ≤ k)
noncomputable def RgOk (M G R : Int) : Prop := (M = 1 ∧ 2 + G / 2 ≤ R) ∨ (2 ≤ M ∧ 2 * M + G - 1 ≤ R)
theorem gr_far {R M G t X e n j : Int} (hR : RgOk M G R) (he : e = 0 ∨ e = 1) (hj : n + 1 - G ≤ j) (h : Gr M t X (n - j) e) : t - X ≤ R - M := by
 unfold Gr at h
 unfold RgOk at hR
 omega
theorem gr_step {M t X n j e t' e' : Int} (h : Gr M t X (n - j) e) (he : e = 0 ∨ e = 1) (ht : (t' = t ∧ e' = 0) ∨ (t' = t + 1 ∧ e' = 1 ∧ (M = 1 → e = 0))) : Gr M t' X (n + 1 - j) e' := by
 unfold Gr at *
 omega
noncomputable def P0 (M G t n e : Int) (i : Int) (v : V) : Prop := ∃ p j, v = .int p ∧ (0 ≤ p ∧ p < t) ∧ (j < i ∧ i ≤ j + G) ∧ Gr M t p (n - j) e
noncomputable def P1 (H : Hp) (F : List (Key × V)) (R M G t o gp n e : Int) (i : Int) (v : V) : Prop := ∃ q tq a c j, ∃ hs : List Int, v = .ref q ∧ H q = some (.tup [.int (a % R), .int (c + M - a), .ref tq]) ∧ H tq = some (.tup (hs.map V.int)) ∧ (0 ≤ c ∧ c ≤ a ∧ a ≤ gp ∧ c ≤ o) ∧ (hs.Nodup ∧ hs.length ≤ 100 ∧ ∀ h ∈ hs, 0 ≤ h ∧ knw F (a + h) = true) ∧ (j < i ∧ i ≤ j + G) ∧ Gr M t a (n - j) e
theorem P1.mono {H H' : Hp} {F F' : List (Key × V)} {R M G t o gp n e o' gp' i : Int} {v : V} (h : P1 H F R M G t o gp n e i v) (ht : ∀ t l, H t = some (.tup l) → H' t = some (.tup l)) (hF : ∀ j, knw F j = true → knw F' j = true) (ho : o ≤ o') (hg : gp ≤ gp') : P1 H' F' R M G t o' gp' n e i v := by
 obtain ⟨q, tq, a, c, j, hs, h1, h2, h3, h4, h5, h6, h7⟩ := h
 exact ⟨q, tq, a, c, j, hs, h1, ht _ _ h2, ht _ _ h3, by omega, ⟨h5.1, h5.2.1, fun k hk => ⟨(h5.2.2 k hk).1, hF _ (h5.2.2 k hk).2⟩⟩, h6, h7⟩
theorem P1.step {H : Hp} {F : List (Key × V)} {R M G t o gp n e t' e' i : Int} {v : V} (h : P1 H F R M G t o gp n e i v) (he : e = 0 ∨ e = 1) (ht : (t' = t ∧ e' = 0) ∨ (t' = t + 1 ∧ e' = 1 ∧ (M = 1 → e = 0))) : P1 H F R M G t' o gp (n + 1) e' i v := by
 obtain ⟨q, tq, a, c, j, hs, h1, h2, h3, h4, h5, h6, h7⟩ := h
 exact ⟨q, tq, a, c, j, hs, h1, h2, h3, h4, h5, h6, gr_step h7 he ht⟩
theorem P0.step {M G t n e t' e' i : Int} {v : V} (h : P0 M G t n e i v) (he : e = 0 ∨ e = 1) (ht : (t' = t ∧ e' = 0) ∨ (t' = t + 1 ∧ e' = 1 ∧ (M = 1 → e = 0))) : P0 M G t' (n + 1) e' i v := by
 obtain ⟨p, j, h1, h2, h3, h4⟩ := h
 exact ⟨p, j, h1, by omega, h3, gr_step h4 he ht⟩
theorem P1.den {K : PySem.W.Frag} {H : Hp} {F : List (Key × V)} {R M G t o gp n e i : Int} {v : V} (h : P1 H F R M G t o gp n e i v) : ∃ d, Den K H 2 v d := by
 obtain ⟨q, tq, a, c, j, hs, rfl, h2, h3, _⟩ := h
 exact ⟨.t [.int (a % R), .int (c + M - a), .t (hs.map Dt.int)], .inr (.inr ⟨q, _, _, rfl, rfl, SqT.of h2, .cons (.inl (.inr (.inl ⟨_, rfl, rfl⟩))) (.cons (.inl (.inr (.inl ⟨_, rfl, rfl⟩))) (.cons (den_tup (SqT.of h3)) .nil))⟩)⟩
theorem P0.den {K : PySem.W.Frag} {H : Hp} {M G t n e i : Int} {v : V} (h : P0 M G t n e i v) : ∃ d, Den K H 2 v d := by
 obtain ⟨p, j, rfl, _⟩ := h
 exact ⟨.int p, Den.up (n := 0) (.inr (.inl ⟨p, rfl, rfl⟩)) (Nat.zero_le _)⟩
structure TwP (y : Tk) (th : List V) (F : List (Key × V)) (M B : Int) : Prop where
 o0 : 0 ≤ y.o
 og : y.o ≤ y.g
 B0 : 0 ≤ B
 Bl : B ≤ th.length
 Bm : B ≤ y.o + M
 D1 : ∀ i v, valV y.D (ik i) = some v → y.o ≤ i ∧ knw F i = true ∧ th[i.toNat]? = some v
 D2 : ∀ i, y.o ≤ i → knw F i = true → (valV y.D (ik i)).isSome = true
 Fa : ∀ i, 0 ≤ i → i < y.g → knw F i = true
 Fg : knw F y.g = false
 Fk : ∀ i, knw F i = true → 0 ≤ i ∧ i < B
 lF : F.length ≤ cnt F th.length
 lD : y.D.length ≤ F.length
theorem TwP.gB {y : Tk} {th : List V} {F : List (Key × V)} {M B : Int} (h : TwP y th F M B) : y.g ≤ B := by
 by_cases c : y.g ≤ 0
 ·have := h.B0; omega
 ·have := (h.Fk _ (h.Fa (y.g - 1) (by omega) (by omega))).2; omega
theorem cnt_same {D D' : List (Key × V)} {t : Nat} (h : ∀ j, knw D' j = knw D j) : cnt D' t = cnt D t := by
 unfold cnt
 congr 1
 apply List.filter_congr
 intro j _
 rw [h]
theorem TwP.take {y : Tk} {th : List V} {F D' : List (Key × V)} {M B p : Int} {v : V} {n : Nat} (h : TwP y th F M B) (hg : y.g ≤ p) (hB : p < B) (hv : th[p.toNat]? = some v) (eD : D' = if (valV y.D (ik p)).isSome then y.D else putK y.D (ik p) v) (hr : Run D' y.g n) :
  TwP ⟨y.R, y.M, y.g + n, y.o, D'⟩ th (putK F (ik p) (.bl true)) M B ∧ vals D' y.g n = (th.drop y.g.toNat).take n := by
 have og := h.og
 have o0 := h.o0
 have kF : ∀ i, knw (putK F (ik p) (.bl true)) i = (decide (i = p) || knw F i) := fun i => knw_put
 have d1 : ∀ i w, valV D' (ik i) = some w → y.o ≤ i ∧ knw (putK F (ik p) (.bl true)) i = true ∧ th[i.toNat]? = some w := fun i w hw => by
  have old : valV y.D (ik i) = some w → y.o ≤ i ∧ knw (putK F (ik p) (.bl true)) i = true ∧ th[i.toNat]? = some w := fun q => by
   obtain ⟨a, b, c⟩ := h.D1 i w q
   exact ⟨a, by rw [kF, b, Bool.or_true], c⟩
  subst eD
  split at hw
  ·exact old hw
  ·rw [valV_put] at hw
   split at hw
   ·rename_i c
    have c' : i = p := by injection c
    subst c'
    cases hw
    exact ⟨by omega, by rw [kF]; simp, hv⟩
   ·exact old hw
 have d2 : ∀ i, y.o ≤ i → knw (putK F (ik p) (.bl true)) i = true → (valV D' (ik i)).isSome = true := fun i hi hk => by
  rw [kF] at hk
  subst eD
  cases q : (valV y.D (ik p)).isSome
  ·rw [if_neg (by simp), valV_put]
   split
   ·rfl
   ·rename_i c
    have c' : ¬ i = p := fun e => c (by rw [e])
    rw [decide_eq_false c', Bool.false_or] at hk
    exact h.D2 i hi hk
  ·rw [if_pos rfl]
   by_cases c : i = p
   ·rw [c]; exact q
   ·rw [decide_eq_false c, Bool.false_or] at hk
    exact h.D2 i hi hk
 have hlen : (putK F (ik p) (.bl true)).length ≤ cnt (putK F (ik p) (.bl true)) th.length ∧ D'.length ≤ (putK F (ik p) (.bl true)).length := by
  have lF := h.lF
  have lD := h.lD
  have Bl := h.Bl
  cases q : knw F p with
  | true =>
   have e1 := putK_len (D := F) (k := ik p) (v := .bl true) q
   have e2 : cnt (putK F (ik p) (.bl true)) th.length = cnt F th.length := cnt_same fun j => by
    rw [kF]
    by_cases c : j = p
    ·rw [c, q]; simp
    ·simp [c]
   have e3 := h.D2 p (by omega) q
   subst eD
   rw [if_pos e3]
   omega
  | false =>
   have e1 : (putK F (ik p) (.bl true)).length = F.length + 1 := by
    have : valV F (ik p) = none := by
     cases q2 : valV F (ik p) with
     | none => rfl
     | some w => unfold knw at q; rw [q2] at q; cases q
    rw [putK_new _ this, List.length_append, List.length_singleton]
   have e2 := cnt_put (v := .bl true) q (by omega) (t := th.length)
   rw [if_pos (by omega)] at e2
   have e3 : D'.length ≤ y.D.length + 1 := by
    subst eD
    split
    ·omega
    ·exact length_putK _ _ _
   omega
 refine ⟨⟨o0, by show y.o ≤ y.g + n; omega, h.B0, h.Bl, h.Bm, d1, d2, fun i h0 h1 => ?_, ?_, fun i hi => ?_, hlen.1, hlen.2⟩, ?_⟩
 ·by_cases c : i < y.g
  ·rw [kF, h.Fa i h0 c, Bool.or_true]
  ·have h1' : i < y.g + n := h1
   have := hr.1 (i - y.g).toNat (by omega)
   rw [show y.g + ((i - y.g).toNat : Int) = i by omega] at this
   obtain ⟨w, hw⟩ := Option.isSome_iff_exists.mp this
   exact (d1 i w hw).2.1
 ·show knw (putK F (ik p) (.bl true)) (y.g + n) = false
  cases q : knw (putK F (ik p) (.bl true)) (y.g + n) with
  | false => rfl
  | true =>
   have := d2 (y.g + n) (by omega) q
   rw [hr.2] at this
   cases this
 ·rw [kF] at hi
  by_cases c : i = p
  ·subst c; omega
  ·rw [decide_eq_false c, Bool.false_or] at hi
   exact h.Fk i hi
 ·apply List.ext_getElem?
  intro j
  unfold vals
  rw [List.getElem?_map, List.getElem?_take, List.getElem?_drop]
  by_cases c : j < n
  ·rw [if_pos c, List.getElem?_range c]
   obtain ⟨w, hw⟩ := Option.isSome_iff_exists.mp (hr.1 j c)
   have e := (d1 _ w hw).2.2
   rw [show (y.g + (j : Int)).toNat = y.g.toNat + j by omega] at e
   rw [e]
   show some ((valV D' (ik (y.g + (j : Int)))).getD .non) = _
   rw [hw]
   rfl
  ·rw [if_neg c, List.getElem?_eq_none (by rw [List.length_range]; omega)]
   rfl
theorem TwP.read {y : Tk} {th : List V} {F D' : List (Key × V)} {M B : Int} {n : Nat} (h : TwP y th F M B) (hn : y.o + n ≤ y.g) (hD : ∀ i, valV D' (ik i) = if y.o ≤ i ∧ i < y.o + n then none else valV y.D (ik i)) (hl : D'.length ≤ y.D.length) :
  TwP ⟨y.R, y.M, y.g, y.o + n, D'⟩ th F M B ∧ vals y.D y.o n = (th.drop y.o.toNat).take n := by
 have o0 := h.o0
 refine ⟨⟨by show 0 ≤ y.o + n; omega, hn, h.B0, h.Bl, by have := h.Bm; show B ≤ y.o + n + M; omega, fun i v hv => ?_, fun i hi hk => ?_, h.Fa, h.Fg, h.Fk, h.lF, Nat.le_trans hl h.lD⟩, ?_⟩
 ·rw [hD] at hv
  split at hv
  ·cases hv
  ·rename_i c
   obtain ⟨a, b, e⟩ := h.D1 i v hv
   exact ⟨by show y.o + n ≤ i; omega, b, e⟩
 ·have hi' : y.o + n ≤ i := hi
  show (valV D' (ik i)).isSome = true
  rw [hD, if_neg (by omega)]
  exact h.D2 i (by omega) hk
 ·apply List.ext_getElem?
  intro j
  unfold vals
  rw [List.getElem?_map, List.getElem?_take, List.getElem?_drop]
  by_cases c : j < n
  ·rw [if_pos c, List.getElem?_range c]
   have hk := h.Fa (y.o + j) (by omega) (by omega)
   obtain ⟨w, hw⟩ := Option.isSome_iff_exists.mp (h.D2 _ (by omega) hk)
   have e := (h.D1 _ w hw).2.2
   rw [show (y.o + (j : Int)).toNat = y.o.toNat + j by omega] at e
   rw [e]
   show some ((valV y.D (ik (y.o + (j : Int)))).getD .non) = _
   rw [hw]
   rfl
  ·rw [if_neg c, List.getElem?_eq_none (by rw [List.length_range]; omega)]
   rfl
structure Tw (C : Addr) (H : Hp) (tk dx pk pT pG : Addr) (y : Tk) (th : List V) (F : List (Key × V)) (R M B : Int) : Prop where
 T : TkAt C H tk dx pk y
 hT : H pT = some (.lst th)
 hG : H pG = some (.lst (th.take y.o.toNat))
 eR : y.R = R
 eM : y.M = M
 ok : ∀ v ∈ th, ∃ t a b, v = .ref t ∧ H t = some (.tup [.str a, .str b])
 nTG : pT ≠ pG
 p : TwP y th F M B
theorem Tw.keep {C : Addr} {H H' : Hp} {tk dx pk pT pG : Addr} {y : Tk} {th : List V} {F : List (Key × V)} {R M B : Int} (h : Tw C H tk dx pk pT pG y th F R M B) (k1 : ∀ u, H tk = some u → H' tk = some u) (k2 : ∀ u, H pk = some u → H' pk = some u) (k3 : ∀ u, H pT = some u → H' pT = some u) (k5 : ∀ u, H pG = some u → H' pG = some u) (kt : ∀ t l, H t = some (.tup l) → H' t = some (.tup l)) : Tw C H' tk dx pk pT pG y th F R M B :=
 ⟨⟨k1 _ h.T.hx, k2 _ h.T.hD⟩, k3 _ h.hT, k5 _ h.hG, h.eR, h.eM, fun v hv => by obtain ⟨t, a, b, e1, e2⟩ := h.ok v hv; exact ⟨t, a, b, e1, kt _ _ e2⟩, h.nTG, h.p⟩
theorem Tw.same {C : Addr} {H H' : Hp} {tk dx pk pT pG : Addr} {y : Tk} {th : List V} {F : List (Key × V)} {R M B : Int} (h : Tw C H tk dx pk pT pG y th F R M B) (e : Same H H') : Tw C H' tk dx pk pT pG y th F R M B :=
 h.keep (fun u q => e _ _ q) (fun u q => e _ _ q) (fun u q => e _ _ q) (fun u q => e _ _ q) (fun t l q => e _ _ q)
theorem Tw.den {K : PySem.W.Frag} {C : Addr} {H : Hp} {tk dx pk pT pG : Addr} {y : Tk} {th : List V} {F : List (Key × V)} {R M B : Int} (h : Tw C H tk dx pk pT pG y th F R M B) : ∀ v ∈ th, ∃ d, Den K H 1 v d := fun v hv => by
 obtain ⟨t, a, b, rfl, e2⟩ := h.ok v hv
 exact ⟨.t [.str a, .str b], .inr (.inr ⟨t, _, _, rfl, rfl, SqT.of e2, .cons (.inr (.inr ⟨a, rfl, rfl⟩)) (.cons (.inr (.inr ⟨b, rfl, rfl⟩)) .nil)⟩)⟩
theorem ring_up {p g r : Int} (h0 : g ≤ p) (h1 : p - g < r) : (p % r - g) % r = p - g := by
 rw [Int.sub_emod, Int.emod_emod, ← Int.sub_emod]
 exact Int.emod_eq_of_lt (by omega) h1
theorem ring_down {p g r : Int} (h0 : p < g) (h1 : g - p < r) : (p % r - g) % r = p - g + r := by
 rw [Int.sub_emod, Int.emod_emod, ← Int.sub_emod, ← Int.add_emod_right]
 exact Int.emod_eq_of_lt (by omega) (by omega)
theorem take_len {th : List V} {g B : Int} (h0 : 0 ≤ g) (h1 : g ≤ B) (h2 : B ≤ th.length) : ((th.take g.toNat).length : Int) = g := by
 rw [List.length_take]
 omega
noncomputable def InL (H : Hp) (d : Addr) (i : Int) (v : V) : Prop := ∃ kvs l xs, H d = some (.dK kvs) ∧ valV kvs (ik i) = some (.ref l) ∧ H l = some (.lst xs) ∧ v ∈ xs
theorem InL.keep {H H' : Hp} {d : Addr} {i : Int} {v : V} (h : InL H d i v) (hd : ∀ o, H d = some o → H' d = some o) (hl : ∀ kvs l xs, H d = some (.dK kvs) → valV kvs (ik i) = some (.ref l) → H l = some (.lst xs) → H' l = some (.lst xs)) : InL H' d i v := by
 obtain ⟨kvs, l, xs, h1, h2, h3, h4⟩ := h
 exact ⟨kvs, l, xs, hd _ h1, h2, hl kvs l xs h1 h2 h3, h4⟩
theorem LaneAt.own {H : Hp} {d : Addr} {ln : Nat} {ow : Own} {P : Int → V → Prop} {m : Nat} (h : LaneAt H d ln ow P m) {kvs : List (Key × V)} {l : Addr} {i : Int} (h1 : H d = some (.dK kvs)) (h2 : valV kvs (ik i) = some (.ref l)) : ow l = some (ln, i) := by
 obtain ⟨kvs', e1, _, e3⟩ := h
 rw [e1] at h1
 cases h1
 obtain ⟨l', xs, k1, k2, _⟩ := e3 i _ h2
 cases k1
 exact k2
noncomputable def sp__law_mixed  : Sp := fun vs H Q E => match vs with
 | [.int c, .int k, .int t] => (0 ≤ k ∧ k ≤ 1000 ∧ 0 ≤ t ∧ t ≤ 100000) ∧ ∀ v, 0 ≤ v → Q (.int v) H
 | _ => False
noncomputable def sp__law_ring  : Sp := fun vs H Q E => match vs with
 | [.int c, .int m, .int g] => (1 ≤ m ∧ m ≤ 16 ∧ 1 ≤ g ∧ g ≤ 60) ∧ ∀ v, RgOk m g v → Q (.int v) H
 | _ => False
noncomputable def sp__law_put_on  : Sp := fun vs H Q E => match vs with
 | [.ref d, .int n, .int t, .int g, v] => ∃ ln ow P m, LaneAt H d ln ow P m ∧ OwD H ow ∧ m ≤ 1000000 ∧ (1 ≤ g ∧ g ≤ 60) ∧ (∀ i, t < i → i ≤ t + g → P i v) ∧ ∀ ow' H', LFr d ln ow ow' H H' → OwD H' ow' → LaneAt H' d ln ow' P (m + 3) → (n % 4 = 1 → g = 1 → InL H' d (t + 1) v) → Q .non H'
 | _ => False
noncomputable def sp__law_due  (K : PySem.W.Frag) : Sp := fun vs H Q E => match vs with
 | [.ref d, .int t, .int n] => ∃ ln ow P m, LaneAt H d ln ow P m ∧ m ≤ 1000000 ∧ (∀ y, P t y → ∃ dd, Den K H 2 y dd) ∧ ∀ p ys H', Same H H' → H p = none → H' p = some (.lst ys) → ys.length ≤ m → (∀ y ∈ ys, P t y) → (∀ v, InL H d t v → v ∈ ys) → Q (.ref p) H'
 | _ => False
structure Fx where
 x : Addr
 A : Ad
 tk : Addr
 dx : Addr
 pk : Addr
 pT : Addr
 pG : Addr
 d0 : Addr
 d1 : Addr
 R : Int
 M : Int
 G : Int
 L : Int
structure Ap (f : Fx) : Prop where
 xt : f.x ≠ f.tk
 wt : f.A.pw ≠ f.tk
 mt : f.A.pm ≠ f.tk
 lT : f.A.pt ≠ f.pT
 lG : f.A.pt ≠ f.pG
 kd : ∀ d, d ∈ [f.pk, f.d0, f.d1] → d ≠ f.A.pk ∧ d ≠ f.A.pf ∧ d ≠ f.A.pa
 k0 : f.d0 ≠ f.pk
 k1 : f.d1 ≠ f.pk
 dd : f.d0 ≠ f.d1
structure Lw (CS CW CM CT : Addr) (H : Hp) (f : Fx) (z : Sd) (y : Tk) (F : List (Key × V)) (ow : Own) (m : Nat) (n e gp tn : Int) (s : Nat) : Prop where
 S : SdAt CS CW CM H f.x f.A z
 W : Tw CT H f.tk f.dx f.pk f.pT f.pG y z.T F f.R f.M z.t
 J : Jw z f.R tn s
 l0 : LaneAt H f.d0 0 ow (P0 f.M f.G z.t n e) m
 l1 : LaneAt H f.d1 1 ow (P1 H F f.R f.M f.G z.t y.o gp n e) m
 od : OwD H ow
 oA : ow f.A.pt = none
 oT : ow f.pT = none
 oG : ow f.pG = none
 a : Ap f
 bg : z.b ≤ gp
 gg : gp ≤ y.g
 eb : z.e ≤ z.b + f.M
 eo : z.e ≤ y.o + f.M
 e01 : e = 0 ∨ e = 1
 eg : e = 1 → gp < z.t
 rg : RgOk f.M f.G f.R
 m1 : 1 ≤ f.M ∧ f.M ≤ 16
 g1 : 1 ≤ f.G ∧ f.G ≤ 60
 eL : z.L = f.L
 ck : z.b < z.t → ∃ i, z.clk = .int i ∧ i ≤ tn + f.L
theorem SdAt.keep {CS CW CM x : Addr} {H H' : Hp} {A : Ad} {z : Sd} (h : SdAt CS CW CM H x A z) (kx : ∀ u, H x = some u → H' x = some u) (kw : ∀ u, H A.pw = some u → H' A.pw = some u) (km : ∀ u, H A.pm = some u → H' A.pm = some u) (kt : ∀ u, H A.pt = some u → H' A.pt = some u) (kk : ∀ u, H A.pk = some u → H' A.pk = some u) (kf : ∀ u, H A.pf = some u → H' A.pf = some u) (ka : ∀ u, H A.pa = some u → H' A.pa = some u) (kp : ∀ t l, H t = some (.tup l) → H' t = some (.tup l)) : SdAt CS CW CM H' x A z := by
 obtain ⟨e1, hi⟩ := h.ms
 exact ⟨kx _ h.hx, kt _ h.ht, kk _ h.hk, kf _ h.hf, ka _ h.ha, h.ws.keep (fun o q => kw _ q) kp, ⟨km _ e1, hi⟩, h.kf, h.ka, h.fa, h.xw, h.xm, h.wm⟩
noncomputable def TuFr (f : Fx) (ow ow' : Own) (H H' : Hp) : Prop := (∀ b l, H b = some (.tup l) → H' b = some (.tup l)) ∧ (∀ b l, H b = some (.lst l) → b ≠ f.pG → b ≠ f.A.pt → ow b = none → H' b = some (.lst l) ∧ ow' b = none)
theorem TuFr.trans {f : Fx} {ow ow' ow'' : Own} {H H' H'' : Hp} (h : TuFr f ow ow' H H') (h' : TuFr f ow' ow'' H' H'') : TuFr f ow ow'' H H'' := ⟨fun b l e => h'.1 b l (h.1 b l e), fun b l e a1 a2 a4 => by
 obtain ⟨q1, q2⟩ := h.2 b l e a1 a2 a4
 exact h'.2 b l q1 a1 a2 q2⟩
theorem TuFr.same {f : Fx} {ow : Own} {H H' : Hp} (e : Same H H') : TuFr f ow ow H H' := ⟨fun b l q => e _ _ q, fun b l q _ _ h => ⟨e _ _ q, h⟩⟩
section
variable {CS CW CM CT : Addr} {H H' : Hp} {f : Fx} {z : Sd} {y : Tk} {F : List (Key × V)} {ow : Own} {m : Nat} {n e gp tn : Int} {s : Nat}
theorem Lw.nT (h : Lw CS CW CM CT H f z y F ow m n e gp tn s) {b : Addr} {o : HO} (q : H b = some o) (ni : ∀ C d l, o ≠ .ins C d l) : b ≠ f.tk ∧ b ≠ f.x ∧ b ≠ f.A.pw ∧ b ≠ f.A.pm := by
 obtain ⟨a1, a2, a3⟩ := h.S.nw q ni
 exact ⟨ne_of q h.W.T.hx (ni _ _ _), a1, a2, a3⟩
theorem Lw.same (h : Lw CS CW CM CT H f z y F ow m n e gp tn s) (q : Same H H') : Lw CS CW CM CT H' f z y F ow m n e gp tn s :=
 ⟨h.S.same q, h.W.same q, h.J, h.l0.keep (fun o e => q _ _ e) (fun l xs i _ e => ⟨q _ _ e, rfl⟩) (fun i v p => p) (Nat.le_refl _), h.l1.keep (fun o e => q _ _ e) (fun l xs i _ e => ⟨q _ _ e, rfl⟩) (fun i v p => p.mono (fun t l e => q _ _ e) (fun j hj => hj) (Int.le_refl _) (Int.le_refl _)) (Nat.le_refl _), fun b i hb => by obtain ⟨u, hu⟩ := h.od b i hb; exact ⟨u, q _ _ hu⟩, h.oA, h.oT, h.oG, h.a, h.bg, h.gg, h.eb, h.eo, h.e01, h.eg, h.rg, h.m1, h.g1, h.eL, h.ck⟩
theorem Lw.comes {y' : Tk} {F' : List (Key × V)} (h : Lw CS CW CM CT H f z y F ow m n e gp tn s) (fr : Fr2 f.tk f.pk H H') (W' : Tw CT H' f.tk f.dx f.pk f.pT f.pG y' z.T F' f.R f.M z.t) (ho : y'.o = y.o) (hg : y.g ≤ y'.g) (hF : ∀ j, knw F j = true → knw F' j = true) : Lw CS CW CM CT H' f z y' F' ow m n e gp tn s ∧ TuFr f ow ow H H' ∧ ∀ i v, InL H f.d1 i v → InL H' f.d1 i v := by
 have lst : ∀ b l, H b = some (.lst l) → H' b = some (.lst l) := fun b l q => fr b _ q (h.nT q (by simp)).1 (ne_of q h.W.T.hD (by simp))
 have tup : ∀ b l, H b = some (.tup l) → H' b = some (.tup l) := fun b l q => fr b _ q (h.nT q (by simp)).1 (ne_of q h.W.T.hD (by simp))
 have dic : ∀ b l, H b = some (.dK l) → b ≠ f.pk → H' b = some (.dK l) := fun b l q c1 => fr b _ q (h.nT q (by simp)).1 c1
 have ins : ∀ b C d l, H b = some (.ins C d l) → b ≠ f.tk → H' b = some (.ins C d l) := fun b C d l q c => fr b _ q c (ne_of q h.W.T.hD (by simp))
 obtain ⟨k1, k2, k3⟩ := h.a.kd f.pk (by simp)
 obtain ⟨sm, sp, ew⟩ := h.S.ws.ins
 have gg := h.gg
 have kd1 : ∀ o, H f.d1 = some o → H' f.d1 = some o := fun o q => by
  obtain ⟨kvs, hd, _⟩ := h.l1; rw [hd] at q; cases q; exact dic _ _ hd h.a.k1
 refine ⟨⟨h.S.keep (fun u q => ?_) (fun u q => ?_) (fun u q => ?_) (fun u q => ?_) (fun u q => ?_) (fun u q => ?_) (fun u q => ?_) tup, W', h.J, h.l0.keep (fun o q => ?_) (fun l xs i ho q => ⟨lst l xs q, rfl⟩) (fun i v p => p) (Nat.le_refl _), h.l1.keep kd1 (fun l xs i ho q => ⟨lst l xs q, rfl⟩) (fun i v p => p.mono tup hF (by omega) (Int.le_refl _)) (Nat.le_refl _), fun b i hb => ?_, h.oA, h.oT, h.oG, h.a, h.bg, by omega, h.eb, by rw [ho]; exact h.eo, h.e01, h.eg, h.rg, h.m1, h.g1, h.eL, h.ck⟩, ⟨tup, fun b l q c1 c2 c4 => ⟨lst b l q, c4⟩⟩, fun i v q => q.keep kd1 (fun kvs l xs _ _ q => lst l xs q)⟩
 ·rw [h.S.hx] at q; cases q; exact ins _ _ _ _ h.S.hx h.a.xt
 ·rw [ew] at q; cases q; exact ins _ _ _ _ ew h.a.wt
 ·rw [h.S.ms.1] at q; cases q; exact ins _ _ _ _ h.S.ms.1 h.a.mt
 ·rw [h.S.ht] at q; cases q; exact lst _ _ h.S.ht
 ·rw [h.S.hk] at q; cases q; exact dic _ _ h.S.hk k1.symm
 ·rw [h.S.hf] at q; cases q; exact dic _ _ h.S.hf k2.symm
 ·rw [h.S.ha] at q; cases q; exact dic _ _ h.S.ha k3.symm
 ·obtain ⟨kvs, hd, _⟩ := h.l0; rw [hd] at q; cases q; exact dic _ _ hd h.a.k0
 ·obtain ⟨u, hu⟩ := h.od b i hb
  exact ⟨u, lst b u hu⟩
theorem Lw.send {z' : Sd} (h : Lw CS CW CM CT H f z y F ow m n e gp tn s) (fr : Fr7 f.x f.A H H') (S' : SdAt CS CW CM H' f.x f.A z') : TuFr f ow ow H H' ∧ OwD H' ow ∧ Tw CT H' f.tk f.dx f.pk f.pT f.pG y z.T F f.R f.M z.t ∧ LaneAt H' f.d0 0 ow (P0 f.M f.G z.t n e) m ∧ LaneAt H' f.d1 1 ow (P1 H' F f.R f.M f.G z.t y.o gp n e) m := by
 obtain ⟨sm, sp, ew⟩ := S'.ws.ins
 have lst : ∀ b l, H b = some (.lst l) → b ≠ f.A.pt → H' b = some (.lst l) := fun b l q c => fr b _ q (h.nT q (by simp)).2.1 (h.nT q (by simp)).2.2.1 (h.nT q (by simp)).2.2.2 c (ne_of q h.S.hk (by simp)) (ne_of q h.S.hf (by simp)) (ne_of q h.S.ha (by simp))
 have tup : ∀ b l, H b = some (.tup l) → H' b = some (.tup l) := fun b l q => fr b _ q (h.nT q (by simp)).2.1 (h.nT q (by simp)).2.2.1 (h.nT q (by simp)).2.2.2 (ne_of q h.S.ht (by simp)) (ne_of q h.S.hk (by simp)) (ne_of q h.S.hf (by simp)) (ne_of q h.S.ha (by simp))
 have dic : ∀ b l, H b = some (.dK l) → b ≠ f.A.pk ∧ b ≠ f.A.pf ∧ b ≠ f.A.pa → H' b = some (.dK l) := fun b l q c => fr b _ q (h.nT q (by simp)).2.1 (h.nT q (by simp)).2.2.1 (h.nT q (by simp)).2.2.2 (ne_of q h.S.ht (by simp)) c.1 c.2.1 c.2.2
 have htk : H' f.tk = H f.tk := by rw [h.W.T.hx]; exact fr _ _ h.W.T.hx h.a.xt.symm h.a.wt.symm h.a.mt.symm (ne_of h.W.T.hx h.S.ht (by simp)) (ne_of h.W.T.hx h.S.hk (by simp)) (ne_of h.W.T.hx h.S.hf (by simp)) (ne_of h.W.T.hx h.S.ha (by simp))
 refine ⟨⟨tup, fun b l q c1 c3 c4 => ⟨lst b l q c3, c4⟩⟩, fun b i hb => ?_, h.W.keep (fun u q => by rw [htk]; exact q) (fun u q => ?_) (fun u q => ?_) (fun u q => ?_) tup, h.l0.keep (fun o q => ?_) (fun l xs i ho q => ⟨lst l xs q (fun c => by rw [c, h.oA] at ho; cases ho), rfl⟩) (fun i v p => p) (Nat.le_refl _), h.l1.keep (fun o q => ?_) (fun l xs i ho q => ⟨lst l xs q (fun c => by rw [c, h.oA] at ho; cases ho), rfl⟩) (fun i v p => p.mono tup (fun j hj => hj) (Int.le_refl _) (Int.le_refl _)) (Nat.le_refl _)⟩
 ·obtain ⟨u, hu⟩ := h.od b i hb
  exact ⟨u, lst b u hu (fun c => by rw [c, h.oA] at hb; cases hb)⟩
 ·rw [h.W.T.hD] at q; cases q; exact dic _ _ h.W.T.hD (h.a.kd _ (by simp))
 ·rw [h.W.hT] at q; cases q; exact lst _ _ h.W.hT h.a.lT.symm
 ·rw [h.W.hG] at q; cases q; exact lst _ _ h.W.hG h.a.lG.symm
 ·obtain ⟨kvs, hd, _⟩ := h.l0; rw [hd] at q; cases q; exact dic _ _ hd (h.a.kd _ (by simp))
 ·obtain ⟨kvs, hd, _⟩ := h.l1; rw [hd] at q; cases q; exact dic _ _ hd (h.a.kd _ (by simp))
theorem Lw.heard {z' : Sd} (h : Lw CS CW CM CT H f z y F ow m n e gp (n + 1) s) {a c j : Int} {hs : List Int} (hc : 0 ≤ c ∧ c ≤ a ∧ a ≤ gp ∧ c ≤ y.o) (hh : hs.Nodup ∧ hs.length ≤ 100 ∧ ∀ k ∈ hs, 0 ≤ k ∧ knw F (a + k) = true) (hj : j < n + 1 ∧ n + 1 ≤ j + f.G) (hg : Gr f.M z.t a (n - j) e)
  (fr : Fr7 f.x f.A H H') (S' : SdAt CS CW CM H' f.x f.A z') (hf : far' z (a % f.R) ≤ z.t - z.b) (k : Hk z z' (a % f.R) (c + f.M - a) hs) (hck : z'.b < z'.t → ∃ i, z'.clk = .int i ∧ i ≤ n + 1 + f.L) :
  Lw CS CW CM CT H' f z' y F ow m n e gp (n + 1) s ∧ TuFr f ow ow H H' ∧ z'.b = a ∧ c + f.M ≤ z'.e ∧ z.b ≤ a ∧ z.e ≤ z'.e := by
 obtain ⟨t1, o1, w1, l1, l2⟩ := h.send fr S'
 have hfar := gr_far h.rg h.e01 (by omega) hg
 have gg := h.gg
 have bg := h.bg
 have eb := h.eb
 have eo := h.eo
 have m1 := h.m1
 have Bm := h.W.p.Bm
 have gB := h.W.p.gB
 have og := h.W.p.og
 have o0 := h.W.p.o0
 have te := h.J.te
 have bt := h.J.B.bt
 have b0 := h.J.B.b0
 have eR := h.J.R
 have rM : f.M < f.R := by have r1 := h.rg; have g1 := h.g1; unfold RgOk at r1; omega
 have ef : far' z (a % f.R) = a - z.b := by
  unfold far' at hf ⊢
  rw [eR] at hf ⊢
  by_cases ca : z.b ≤ a
  ·exact ring_up ca (by omega)
  ·rw [ring_down (by omega) (by omega)] at hf
   omega
 have eb' : z'.b = a := by rw [k.b, ef]; omega
 have ee : z'.e = if z.e < c + f.M then c + f.M else z.e := by rw [k.e, ef, show z.b + (a - z.b) + (c + f.M - a) = c + f.M by omega]
 have ba : z.b ≤ a := by
  have := Int.emod_nonneg (a % f.R - z.b) (show f.R ≠ 0 by omega)
  unfold far' at ef
  rw [eR] at ef
  omega
 have J' := h.J.hrd hh.2.1 hh.1 (fun k hk => (hh.2.2 k hk).1) hf k
 refine ⟨⟨S', by rw [k.T, k.t]; exact w1, J', by rw [k.t]; exact l1, by rw [k.t]; exact l2, o1, h.oA, h.oT, h.oG, h.a, by omega, gg, by rw [eb', ee]; split <;> omega, by rw [ee]; split <;> omega, h.e01, fun q => by rw [k.t]; exact h.eg q, h.rg, h.m1, h.g1, k.L.trans h.eL, hck⟩, t1, eb', by rw [ee]; split <;> omega, ba, by rw [ee]; split <;> omega⟩
theorem Lw.read {D' : List (Key × V)} {y' : Tk} {k : Nat} (h : Lw CS CW CM CT H f z y F ow m n e gp tn s) (hk : y.o + k ≤ y.g) (hD : ∀ i, valV D' (ik i) = if y.o ≤ i ∧ i < y.o + k then none else valV y.D (ik i)) (hl : D'.length ≤ y.D.length) (ey : y' = ⟨y.R, y.M, y.g, y.o + k, D'⟩)
  (fr : ∀ b u, H b = some u → b ≠ f.tk → b ≠ f.pk → b ≠ f.pG → H' b = some u) (T' : TkAt CT H' f.tk f.dx f.pk y') (hG : H' f.pG = some (.lst (z.T.take (y.o + k).toNat))) :
  Lw CS CW CM CT H' f z y' F ow m n e gp tn s ∧ TuFr f ow ow H H' := by
 subst ey
 have lst : ∀ b l, H b = some (.lst l) → b ≠ f.pG → H' b = some (.lst l) := fun b l q c => fr b _ q (h.nT q (by simp)).1 (ne_of q h.W.T.hD (by simp)) c
 have tup : ∀ b l, H b = some (.tup l) → H' b = some (.tup l) := fun b l q => fr b _ q (h.nT q (by simp)).1 (ne_of q h.W.T.hD (by simp)) (ne_of q h.W.hG (by simp))
 have dic : ∀ b l, H b = some (.dK l) → b ≠ f.pk → H' b = some (.dK l) := fun b l q c1 => fr b _ q (h.nT q (by simp)).1 c1 (ne_of q h.W.hG (by simp))
 have ins : ∀ b C d l, H b = some (.ins C d l) → b ≠ f.tk → H' b = some (.ins C d l) := fun b C d l q c => fr b _ q c (ne_of q h.W.T.hD (by simp)) (ne_of q h.W.hG (by simp))
 obtain ⟨k1, k2, k3⟩ := h.a.kd f.pk (by simp)
 obtain ⟨sm, sp, ew⟩ := h.S.ws.ins
 have eo := h.eo
 have P' := (h.W.p.read hk hD hl).1
 have W' : Tw CT H' f.tk f.dx f.pk f.pT f.pG ⟨y.R, y.M, y.g, y.o + k, D'⟩ z.T F f.R f.M z.t := ⟨T', lst _ _ h.W.hT h.W.nTG, hG, h.W.eR, h.W.eM, fun w hw => by obtain ⟨t, a, b, e1, e2⟩ := h.W.ok w hw; exact ⟨t, a, b, e1, tup _ _ e2⟩, h.W.nTG, P'⟩
 refine ⟨⟨h.S.keep (fun u q => ?_) (fun u q => ?_) (fun u q => ?_) (fun u q => ?_) (fun u q => ?_) (fun u q => ?_) (fun u q => ?_) tup, W', h.J, h.l0.keep (fun o q => ?_) (fun l xs i ho q => ⟨lst l xs q (fun c => by rw [c, h.oG] at ho; cases ho), rfl⟩) (fun i v p => p) (Nat.le_refl _), h.l1.keep (fun o q => ?_) (fun l xs i ho q => ⟨lst l xs q (fun c => by rw [c, h.oG] at ho; cases ho), rfl⟩) (fun i v p => p.mono tup (fun j hj => hj) (by show y.o ≤ y.o + k; omega) (Int.le_refl _)) (Nat.le_refl _), fun b i hb => ?_, h.oA, h.oT, h.oG, h.a, h.bg, h.gg, h.eb, by show z.e ≤ y.o + k + f.M; omega, h.e01, h.eg, h.rg, h.m1, h.g1, h.eL, h.ck⟩, tup, fun b l q c2 c3 c4 => ⟨lst b l q c2, c4⟩⟩
 ·rw [h.S.hx] at q; cases q; exact ins _ _ _ _ h.S.hx h.a.xt
 ·rw [ew] at q; cases q; exact ins _ _ _ _ ew h.a.wt
 ·rw [h.S.ms.1] at q; cases q; exact ins _ _ _ _ h.S.ms.1 h.a.mt
 ·rw [h.S.ht] at q; cases q; exact lst _ _ h.S.ht h.a.lG
 ·rw [h.S.hk] at q; cases q; exact dic _ _ h.S.hk k1.symm
 ·rw [h.S.hf] at q; cases q; exact dic _ _ h.S.hf k2.symm
 ·rw [h.S.ha] at q; cases q; exact dic _ _ h.S.ha k3.symm
 ·obtain ⟨kvs, hd, _⟩ := h.l0; rw [hd] at q; cases q; exact dic _ _ hd h.a.k0
 ·obtain ⟨kvs, hd, _⟩ := h.l1; rw [hd] at q; cases q; exact dic _ _ hd h.a.k1
 ·obtain ⟨u, hu⟩ := h.od b i hb
  exact ⟨u, lst b u hu (fun c => by rw [c, h.oG] at hb; cases hb)⟩
theorem Lw.go {z' : Sd} {v : V} (h : Lw CS CW CM CT H f z y F ow m n e gp tn s) (fr : Fr7 f.x f.A H H') (S' : SdAt CS CW CM H' f.x f.A z') (g : Gk z z') (o : GoR z z' tn v H H') (hck : z'.b < z'.t → ∃ i, z'.clk = .int i ∧ i ≤ tn + f.L) :
  TuFr f ow ow H H' ∧ z'.T = z.T ∧ ∃ e', Lw CS CW CM CT H' f z' y F ow m (n + 1) e' y.g tn (s + 1) ∧ (v = .non ∨ ∃ p, v = .ref p ∧ H p = none ∧ (H' p = some (.tup [.str "ask", .non]) ∨ ∃ w u, H' p = some (.tup [.str w, .int u]) ∧ (w = "again" ∨ w = "new") ∧ (0 ≤ u ∧ u < z'.t) ∧ Gr f.M z'.t u 0 e')) := by
 obtain ⟨t1, o1, w1, l1, l2⟩ := h.send fr S'
 obtain ⟨J', tt⟩ := h.J.go g o
 have eb := h.eb
 have eo := h.eo
 have te := J'.te
 have tm := J'.tm
 have b0 := h.J.B.b0
 have bg := h.bg
 have gg := h.gg
 have gB := h.W.p.gB
 have og := h.W.p.og
 have Bm := h.W.p.Bm
 have te0 := h.J.te
 have m1 := h.m1
 rw [g.e] at te
 rw [g.T] at tm
 have key : ∀ e', ((z'.t = z.t ∧ e' = 0) ∨ (z'.t = z.t + 1 ∧ e' = 1 ∧ z.t < z.e)) → Lw CS CW CM CT H' f z' y F ow m (n + 1) e' y.g tn (s + 1) := fun e' he => by
  have ht : (z'.t = z.t ∧ e' = 0) ∨ (z'.t = z.t + 1 ∧ e' = 1 ∧ (f.M = 1 → e = 0)) := by
   rcases he with he | ⟨a1, a2, a3⟩
   ·exact .inl he
   ·refine .inr ⟨a1, a2, fun eM => ?_⟩
    rcases h.e01 with c | c
    ·exact c
    ·have := h.eg c; omega
  have p := w1.p
  refine ⟨S', ?_, J', l1.keep (fun o q => q) (fun l xs i _ q => ⟨q, rfl⟩) (fun i v p => p.step h.e01 ht) (Nat.le_refl _), l2.keep (fun o q => q) (fun l xs i _ q => ⟨q, rfl⟩) (fun i v p => (p.step h.e01 ht).mono (fun t l q => q) (fun j hj => hj) (Int.le_refl _) gg) (Nat.le_refl _), o1, h.oA, h.oT, h.oG, h.a, by rw [g.b]; omega, Int.le_refl _, by rw [g.e, g.b]; exact eb, by rw [g.e]; exact eo, by omega, fun q => by omega, h.rg, h.m1, h.g1, g.L.trans h.eL, hck⟩
  rw [g.T]
  exact ⟨w1.T, w1.hT, w1.hG, w1.eR, w1.eM, w1.ok, w1.nTG, ⟨p.o0, p.og, by have := p.B0; omega, tm, by omega, p.D1, p.D2, p.Fa, p.Fg, fun i hi => by have := p.Fk i hi; omega, p.lF, p.lD⟩⟩
 refine ⟨t1, g.T, ?_⟩
 rcases o with ⟨o1, o2, o3, o4⟩ | ⟨p, o1, o2, ⟨o3, o4, o5, o6, o7⟩ | ⟨o3, o4, o5, o6, o7, o8⟩ | ⟨o3, o4, o5, o6, o7, o8, o9⟩⟩
 ·exact ⟨0, key 0 (.inl ⟨o2, rfl⟩), .inl o1⟩
 ·refine ⟨0, key 0 (.inl ⟨o5, rfl⟩), .inr ⟨p, o1, o2, .inr ⟨_, _, o3, .inl rfl, ⟨b0, by omega⟩, ?_⟩⟩⟩
  unfold Gr
  omega
 ·refine ⟨1, key 1 (.inr ⟨o6, rfl, o5⟩), .inr ⟨p, o1, o2, .inr ⟨_, _, o3, .inr rfl, ⟨by have := h.W.p.B0; omega, by omega⟩, ?_⟩⟩⟩
  unfold Gr
  omega
 ·exact ⟨0, key 0 (.inl ⟨o7, rfl⟩), .inr ⟨p, o1, o2, .inl o3⟩⟩
theorem Lw.lane (h : Lw CS CW CM CT H f z y F ow m n e gp tn s) {d : Addr} {ln : Nat} {ow' : Own} (hd : d = f.d0 ∨ d = f.d1) (fr : LFr d ln ow ow' H H') :
  TuFr f ow ow' H H' ∧ SdAt CS CW CM H' f.x f.A z ∧ Tw CT H' f.tk f.dx f.pk f.pT f.pG y z.T F f.R f.M z.t ∧ (ow' f.A.pt = none ∧ ow' f.pT = none ∧ ow' f.pG = none) ∧ (∀ d', d' = f.d0 ∨ d' = f.d1 → d' ≠ d → ∀ u, H d' = some u → H' d' = some u) := by
 obtain ⟨kd, ed, _⟩ : ∃ kd, H d = some (.dK kd) ∧ True := by
  rcases hd with rfl | rfl
  ·obtain ⟨kvs, q, _⟩ := h.l0; exact ⟨kvs, q, trivial⟩
  ·obtain ⟨kvs, q, _⟩ := h.l1; exact ⟨kvs, q, trivial⟩
 have lst : ∀ b l, H b = some (.lst l) → ow b = none → H' b = some (.lst l) := fun b l q c => fr.1 b _ q (ne_of q ed (by simp)) (fun i => by rw [c]; simp)
 have tup : ∀ b l, H b = some (.tup l) → H' b = some (.tup l) := fun b l q => fr.1 b _ q (ne_of q ed (by simp)) (fun i => by rw [h.od.no q (by simp)]; simp)
 have dic : ∀ b l, H b = some (.dK l) → b ≠ d → H' b = some (.dK l) := fun b l q c => fr.1 b _ q c (fun i => by rw [h.od.no q (by simp)]; simp)
 have ins : ∀ b C D l, H b = some (.ins C D l) → H' b = some (.ins C D l) := fun b C D l q => fr.1 b _ q (ne_of q ed (by simp)) (fun i => by rw [h.od.no q (by simp)]; simp)
 have nd : ∀ b, b ∈ [f.A.pk, f.A.pf, f.A.pa, f.pk] → b ≠ d := fun b hb => by
  have k0 := h.a.kd f.d0 (by simp)
  have k1 := h.a.kd f.d1 (by simp)
  have k2 := h.a.k0
  have k3 := h.a.k1
  simp only [List.mem_cons, List.mem_nil_iff, or_false] at hb
  rcases hd with rfl | rfl <;> rcases hb with rfl | rfl | rfl | rfl <;> first | exact k0.1.symm | exact k0.2.1.symm | exact k0.2.2.symm | exact k2.symm | exact k1.1.symm | exact k1.2.1.symm | exact k1.2.2.symm | exact k3.symm
 obtain ⟨sm, sp, ew⟩ := h.S.ws.ins
 refine ⟨⟨tup, fun b l q c1 c2 c4 => ⟨lst b l q c4, by rw [fr.2 b _ q]; exact c4⟩⟩, h.S.keep (fun u q => ?_) (fun u q => ?_) (fun u q => ?_) (fun u q => ?_) (fun u q => ?_) (fun u q => ?_) (fun u q => ?_) tup, h.W.keep (fun u q => ?_) (fun u q => ?_) (fun u q => ?_) (fun u q => ?_) tup, ⟨by rw [fr.2 _ _ h.S.ht]; exact h.oA, by rw [fr.2 _ _ h.W.hT]; exact h.oT, by rw [fr.2 _ _ h.W.hG]; exact h.oG⟩, fun d' hd' c u q => ?_⟩
 ·rw [h.S.hx] at q; cases q; exact ins _ _ _ _ h.S.hx
 ·rw [ew] at q; cases q; exact ins _ _ _ _ ew
 ·rw [h.S.ms.1] at q; cases q; exact ins _ _ _ _ h.S.ms.1
 ·rw [h.S.ht] at q; cases q; exact lst _ _ h.S.ht h.oA
 ·rw [h.S.hk] at q; cases q; exact dic _ _ h.S.hk (nd _ (by simp))
 ·rw [h.S.hf] at q; cases q; exact dic _ _ h.S.hf (nd _ (by simp))
 ·rw [h.S.ha] at q; cases q; exact dic _ _ h.S.ha (nd _ (by simp))
 ·rw [h.W.T.hx] at q; cases q; exact ins _ _ _ _ h.W.T.hx
 ·rw [h.W.T.hD] at q; cases q; exact dic _ _ h.W.T.hD (nd _ (by simp))
 ·rw [h.W.hT] at q; cases q; exact lst _ _ h.W.hT h.oT
 ·rw [h.W.hG] at q; cases q; exact lst _ _ h.W.hG h.oG
 ·obtain ⟨kvs, q2⟩ : ∃ kvs, H d' = some (.dK kvs) := by
   rcases hd' with rfl | rfl
   ·obtain ⟨kvs, q, _⟩ := h.l0; exact ⟨kvs, q⟩
   ·obtain ⟨kvs, q, _⟩ := h.l1; exact ⟨kvs, q⟩
  rw [q2] at q; cases q; exact dic _ _ q2 c
theorem Lw.put0 (h : Lw CS CW CM CT H f z y F ow m n e gp tn s) {ow' : Own} (fr : LFr f.d0 0 ow ow' H H') (od : OwD H' ow') (l : LaneAt H' f.d0 0 ow' (P0 f.M f.G z.t n e) (m + 3)) : Lw CS CW CM CT H' f z y F ow' (m + 3) n e gp tn s ∧ TuFr f ow ow' H H' := by
 obtain ⟨t1, s1, w1, o1, d1⟩ := h.lane (.inl rfl) fr
 exact ⟨⟨s1, w1, h.J, l, h.l1.keep (fun o q => d1 _ (.inr rfl) h.a.dd.symm o q) (fun l xs i ho q => ⟨fr.1 _ _ q (fun c => by obtain ⟨kvs, q2, _⟩ := h.l0; rw [c, q2] at q; cases q) (fun j c => by rw [ho] at c; simp at c), fr.2 _ _ q⟩) (fun i v p => p.mono t1.1 (fun j hj => hj) (Int.le_refl _) (Int.le_refl _)) (by omega), od, o1.1, o1.2.1, o1.2.2, h.a, h.bg, h.gg, h.eb, h.eo, h.e01, h.eg, h.rg, h.m1, h.g1, h.eL, h.ck⟩, t1⟩
theorem Lw.put1 (h : Lw CS CW CM CT H f z y F ow m n e gp tn s) {ow' : Own} (fr : LFr f.d1 1 ow ow' H H') (od : OwD H' ow') (l : LaneAt H' f.d1 1 ow' (P1 H F f.R f.M f.G z.t y.o gp n e) (m + 3)) : Lw CS CW CM CT H' f z y F ow' (m + 3) n e gp tn s ∧ TuFr f ow ow' H H' := by
 obtain ⟨t1, s1, w1, o1, d1⟩ := h.lane (.inr rfl) fr
 exact ⟨⟨s1, w1, h.J, h.l0.keep (fun o q => d1 _ (.inl rfl) h.a.dd o q) (fun l xs i ho q => ⟨fr.1 _ _ q (fun c => by obtain ⟨kvs, q2, _⟩ := h.l1; rw [c, q2] at q; cases q) (fun j c => by rw [ho] at c; simp at c), fr.2 _ _ q⟩) (fun i v p => p) (by omega), l.keep (fun o q => q) (fun l xs i _ q => ⟨q, rfl⟩) (fun i v p => p.mono t1.1 (fun j hj => hj) (Int.le_refl _) (Int.le_refl _)) (Nat.le_refl _), od, o1.1, o1.2.1, o1.2.2, h.a, h.bg, h.gg, h.eb, h.eo, h.e01, h.eg, h.rg, h.m1, h.g1, h.eL, h.ck⟩, t1⟩
theorem Lw.more {m' : Nat} (h : Lw CS CW CM CT H f z y F ow m n e gp tn s) (hm : m ≤ m') : Lw CS CW CM CT H f z y F ow m' n e gp tn s :=
 ⟨h.S, h.W, h.J, h.l0.keep (fun o q => q) (fun l xs i _ q => ⟨q, rfl⟩) (fun i v p => p) hm, h.l1.keep (fun o q => q) (fun l xs i _ q => ⟨q, rfl⟩) (fun i v p => p) hm, h.od, h.oA, h.oT, h.oG, h.a, h.bg, h.gg, h.eb, h.eo, h.e01, h.eg, h.rg, h.m1, h.g1, h.eL, h.ck⟩
theorem heldL_ok {D : List (Key × V)} {g : Int} {k : Nat} (hk : k ≤ 100) : (heldL D g k).Nodup ∧ (heldL D g k).length ≤ 100 ∧ ∀ h ∈ heldL D g k, 0 ≤ h ∧ (valV D (ik (g + h))).isSome = true := by
 refine ⟨?_, ?_, fun h hh => ?_⟩
 ·unfold heldL List.Nodup
  rw [List.pairwise_map]
  exact (List.Pairwise.filter _ (List.nodup_range (n := k))).imp fun h e => h (by omega)
 ·unfold heldL
  rw [List.length_map]
  have := List.length_filter_le (fun j : Nat => (valV D (ik (g + (1 + (j : Int))))).isSome) (List.range k)
  rw [List.length_range] at this
  omega
 ·unfold heldL at hh
  obtain ⟨j, hj, rfl⟩ := List.mem_map.mp hh
  exact ⟨by omega, (List.mem_filter.mp hj).2⟩
theorem Lw.put {v : V} (h : Lw CS CW CM CT H f z y F ow m n e gp tn s) (hv : ∃ t a b, v = .ref t ∧ H t = some (.tup [.str a, .str b])) (hl : z.T.length < 380) (hB : But f.A.pt (upd H f.pT (.lst (z.T ++ [v]))) H') (S' : SdAt CS CW CM H' f.x f.A { z with T := z.T ++ [v] }) :
  Lw CS CW CM CT H' f { z with T := z.T ++ [v] } y F ow m n e gp tn s ∧ TuFr f (fun b => if b = f.pT then some (2, 0) else ow b) ow H H' := by
 have lst : ∀ b l, H b = some (.lst l) → b ≠ f.pT → b ≠ f.A.pt → H' b = some (.lst l) := fun b l q c1 c2 => hB b _ (by rw [upd_ne c1]; exact q) c2
 have oth : ∀ b o, H b = some o → (∀ l, o ≠ .lst l) → H' b = some o := fun b o q c => hB b _ (by rw [upd_ne (ne_of q h.W.hT (c _))]; exact q) (ne_of q h.S.ht (c _))
 have hT : H' f.pT = some (.lst (z.T ++ [v])) := hB _ _ upd_same h.a.lT.symm
 have p := h.W.p
 have o0 := p.o0
 have og := p.og
 have gB := p.gB
 have Bl := p.Bl
 have low : ∀ b i, ow b = some i → b ≠ f.pT ∧ b ≠ f.A.pt := fun b i q => ⟨(fun c => by rw [c, h.oT] at q; cases q), (fun c => by rw [c, h.oA] at q; cases q)⟩
 refine ⟨⟨S', ⟨⟨oth _ _ h.W.T.hx (by simp), oth _ _ h.W.T.hD (by simp)⟩, hT, ?_, h.W.eR, h.W.eM, fun w hw => ?_, h.W.nTG, ⟨o0, og, p.B0, ?_, p.Bm, fun i w hw => ?_, p.D2, p.Fa, p.Fg, p.Fk, ?_, p.lD⟩⟩, h.J.put hl, h.l0.keep (fun o q => ?_) (fun l xs i ho q => ⟨lst l xs q (low l _ ho).1 (low l _ ho).2, rfl⟩) (fun i v p => p) (Nat.le_refl _), h.l1.keep (fun o q => ?_) (fun l xs i ho q => ⟨lst l xs q (low l _ ho).1 (low l _ ho).2, rfl⟩) (fun i v p => p.mono (fun t l q => oth _ _ q (by simp)) (fun j hj => hj) (Int.le_refl _) (Int.le_refl _)) (Nat.le_refl _), fun b i hb => ?_, h.oA, h.oT, h.oG, h.a, h.bg, h.gg, h.eb, h.eo, h.e01, h.eg, h.rg, h.m1, h.g1, h.eL, h.ck⟩, fun b l q => oth _ _ q (by simp), fun b l q c1 c3 c4 => ?_⟩
 ·have := lst _ _ h.W.hG h.W.nTG.symm h.a.lG.symm
  rw [List.take_append_of_le_length (by omega)]
  exact this
 ·rcases List.mem_append.mp hw with hw | hw
  ·obtain ⟨t, a, b, e1, e2⟩ := h.W.ok w hw
   exact ⟨t, a, b, e1, oth _ _ e2 (by simp)⟩
  ·rw [List.mem_singleton.mp hw]
   obtain ⟨t, a, b, e1, e2⟩ := hv
   exact ⟨t, a, b, e1, oth _ _ e2 (by simp)⟩
 ·show z.t ≤ ((z.T ++ [v]).length : Int)
  rw [List.length_append, List.length_singleton]; omega
 ·obtain ⟨a, b, c⟩ := p.D1 i w hw
  refine ⟨a, b, ?_⟩
  have := (p.Fk i b).2
  rw [List.getElem?_append_left (by omega)]
  exact c
 ·show F.length ≤ cnt F (z.T ++ [v]).length
  rw [List.length_append, List.length_singleton]
  exact Nat.le_trans p.lF cnt_mono
 ·obtain ⟨kvs, hd, _⟩ := h.l0; rw [hd] at q; cases q; exact oth _ _ hd (by simp)
 ·obtain ⟨kvs, hd, _⟩ := h.l1; rw [hd] at q; cases q; exact oth _ _ hd (by simp)
 ·obtain ⟨u, hu⟩ := h.od b i hb
  exact ⟨u, lst b u hu (low b _ hb).1 (low b _ hb).2⟩
 ·replace c4 : (if b = f.pT then some (2, 0) else ow b) = none := c4
  by_cases c : b = f.pT
  ·rw [if_pos c] at c4; cases c4
  ·rw [if_neg c] at c4
   exact ⟨lst b l q c c3, c4⟩
theorem Lw.turn (h : Lw CS CW CM CT H f z y F ow m n e gp tn s) : Lw CS CW CM CT H f z y F ow m n e gp (tn + 1) (s + 1) :=
 ⟨h.S, h.W, h.J.turn (by decide) (by decide), h.l0, h.l1, h.od, h.oA, h.oT, h.oG, h.a, h.bg, h.gg, h.eb, h.eo, h.e01, h.eg, h.rg, h.m1, h.g1, h.eL, fun q => by obtain ⟨i, a1, a2⟩ := h.ck q; exact ⟨i, a1, by omega⟩⟩
end
theorem Jw.tqq2 {z : Sd} {r tn : Int} {s : Nat} (h : Jw z r tn s) (h1 : tn ≤ 100000) : Tq z tn := fun j a b => by
 obtain ⟨f, q1, q2, q3⟩ := h.tq j a b
 exact ⟨f, q1, by omega, by omega⟩
theorem mod_one {a g R M t : Int} (h1 : a ≤ g) (h2 : g ≤ t) (h3 : t - a ≤ R - M) (h4 : 1 ≤ M) (h5 : a % R = g % R) : a = g := by
 have h6 : (g - a) % R = 0 := by rw [Int.sub_emod, h5, Int.sub_self, Int.zero_emod]
 have h7 : (g - a) % R = g - a := Int.emod_eq_of_lt (by omega) (by omega)
 omega
theorem GoX.ck {z z' : Sd} {n l : Int} {v : V} {H H' : Hp} (o : GoX z z' n v H H') (hw : z.w ≤ z.L) (hl : z.L = l) (h : z.b < z.t → ∃ i, z.clk = .int i ∧ i ≤ n + l) : z'.b < z'.t → ∃ i, z'.clk = .int i ∧ i ≤ n + l := by
 have hw2 : w2 z ≤ z.L := by unfold w2; split <;> omega
 rcases o with ⟨_, _, rfl, _⟩ | ⟨_, ⟨_, rfl, _⟩ | ⟨_, ⟨_, rfl, _⟩ | ⟨_, ⟨_, hb, hx⟩ | ⟨_, rfl, _⟩⟩⟩⟩
 ·exact fun _ => ⟨n + w2 z, rfl, by omega⟩
 ·exact fun _ => ⟨n + z.w, rfl, by omega⟩
 ·intro _
  show ∃ i, (if z.b = z.t then V.int (n + z.w) else z.clk) = .int i ∧ i ≤ n + l
  by_cases c : z.b = z.t
  ·rw [if_pos c]; exact ⟨_, rfl, by omega⟩
  ·rw [if_neg c]
   by_cases c2 : z.b < z.t
   ·exact h c2
   ·rename_i hh hn _ _
    rename_i q
    have q' : z.b < z.t + 1 := q
    omega
 ·rcases hx with ⟨_, rfl, _⟩ | ⟨i, _, _, rfl, _⟩ | ⟨i, _, _, rfl, _⟩
  ·intro q; have q' : z.b < z.t := q; omega
  ·intro q; omega
  ·intro q; have q' : z.b < z.t := q; omega
 ·exact h
structure TurnR (f : Fx) (H : Hp) (z : Sd) (y : Tk) (gp t g n2 n3 n4 : Int) (z1 z' : Sd) (y' : Tk) (v : V) (Ha Hb H' : Hp) : Prop where
 r1 : y.g ≤ y'.g
 r2 : ∀ p, InL H f.d0 t (.int p) → p ≤ y.g → p < y'.g
 r3 : ∀ q tq, InL H f.d1 t (.ref q) → H q = some (.tup [.int (gp % f.R), .int f.M, .ref tq]) → gp ≤ z1.b ∧ gp + f.M ≤ z1.e
 r4 : z.b ≤ z1.b ∧ z1.t = z.t ∧ z1.T = z.T ∧ (z1.b = z.b → z1.clk = z.clk) ∧ z1.b ≤ gp
 r5 : n2 = 2 → y'.o = y'.g
 r6 : GoX z1 z' t v Ha Hb
 r6' : n3 = 1 → g = 1 → ∀ p w u, v = .ref p → Hb p = some (.tup [.str w, .int u]) → InL H' f.d0 (t + 1) (.int u)
 r7 : n4 = 1 → g = 1 → ∃ q tq, InL H' f.d1 (t + 1) (.ref q) ∧ H' q = some (.tup [.int (y'.g % f.R), .int (y'.o + f.M - y'.g), .ref tq])
 r8 : 1 ≤ z1.wi
structure Lv (CS CW CM CT : Addr) (H : Hp) (f : Fx) (pH pL p2 : Addr) (ms : List Int) (cT : Nat) (z : Sd) (y : Tk) (F : List (Key × V)) (ow : Own) (m : Nat) (n e : Int) (s : Nat) : Prop where
 L : Lw CS CW CM CT H f z y F ow m n e y.g n s
 hH : H pH = some (.tup [.ref f.x, .ref f.tk, .ref f.pT, .ref f.pG])
 hL : H pL = some (.tup [.ref f.d0, .ref f.d1])
 hl : H p2 = some (.lst (ms.map V.int))
 o2 : ow p2 = none
 n2 : p2 ≠ f.pG ∧ p2 ≠ f.A.pt ∧ p2 ≠ f.pT
 tT : z.T.length ≤ cT
 n0 : 0 ≤ n
 mS : (m : Int) ≤ 6 * n
 sS : (s : Int) ≤ 2 * n
section
variable {CS CW CM CT : Addr} {H H' : Hp} {f : Fx} {pH pL p2 : Addr} {ms : List Int} {cT : Nat} {z : Sd} {y : Tk} {F : List (Key × V)} {ow : Own} {m : Nat} {n e : Int} {s : Nat}
theorem Lv.same (h : Lv CS CW CM CT H f pH pL p2 ms cT z y F ow m n e s) (q : Same H H') : Lv CS CW CM CT H' f pH pL p2 ms cT z y F ow m n e s :=
 ⟨h.L.same q, q _ _ h.hH, q _ _ h.hL, q _ _ h.hl, h.o2, h.n2, h.tT, h.n0, h.mS, h.sS⟩
theorem Lv.up {cT' : Nat} (h : Lv CS CW CM CT H f pH pL p2 ms cT z y F ow m n e s) (h1 : cT ≤ cT') : Lv CS CW CM CT H f pH pL p2 ms cT' z y F ow m n e s := by
 have a1 := h.tT
 exact ⟨h.L, h.hH, h.hL, h.hl, h.o2, h.n2, by omega, h.n0, h.mS, h.sS⟩
end
noncomputable def sp__law_turn  (K : PySem.W.Frag) (C_Sender : Addr) (C_Ways : Addr) (C_Meter : Addr) (C_Taker : Addr) : Sp := fun vs H Q E => match vs with
 | [.ref pH, .ref pL, .ref pN, .int t, .int r, .int g] => ∃ f z y F ow m e gp s n0 n1 n2 n3 n4, H pH = some (.tup [.ref f.x, .ref f.tk, .ref f.pT, .ref f.pG]) ∧ H pL = some (.tup [.ref f.d0, .ref f.d1]) ∧ H pN = some (.lst [.int n0, .int n1, .int n2, .int n3, .int n4]) ∧ 0 ≤ n2 ∧ ow pN = none ∧ r = f.R ∧ (1 ≤ g ∧ g ≤ f.G) ∧ t ≤ 100000 ∧ (pN ≠ f.pG ∧ pN ≠ f.A.pt) ∧ Lw C_Sender C_Ways C_Meter C_Taker H f z y F ow m (t - 1) e gp t s ∧ (m ≤ 900000 ∧ s ≤ 200000) ∧ ∀ z1 z' y' F' ow' e' v Ha Hb H', TuFr f ow ow' H H' → Lw C_Sender C_Ways C_Meter C_Taker H' f z' y' F' ow' (m + 6) t e' y'.g t (s + 1) → z'.T = z.T → TurnR f H z y gp t g n2 n3 n4 z1 z' y' v Ha Hb H' → Q .non H'
 | _ => False
noncomputable def sp__law_alike  (K : PySem.W.Frag) : Sp := fun vs H Q E => match vs with
 | [.ref p, .ref q] => ∃ xs : List V, H p = some (.lst xs) ∧ H q = some (.lst xs) ∧ (∀ v ∈ xs, ∃ d, Den K H 1 v d) ∧ Q (.bl true) H
 | _ => False
set_option compiler.extract_closed false in
local macro_rules | `(tactic| exists $es,*) => `(tactic| simp only [tRet, tRetN, tOp, tUn, tVar, tC, tAsg, gName, tSeq, tNext, tBreak, tCont, tIfS, tTest, tB, tNot, tAnd, tOr, tCall, tCons, tNil, tCB, tChain, tAndV, tOrV, tNotV, tIf, tDrop, tSl, tNoPart, tPart, rI0_int, rI_int, rU_int, ex_bl, ex_sv, rEq_int, rNe_int, rEq_str, rNe_str, rEq_bl, rNe_bl, rAddA_int, rAddA_str, rLenA_ref, rLenA_str, rIsi_ii, rIsi_ib, rIsi_is, rIsi_bi, rIsi_bb, rIsi_ss, rIsi_si, rMinA_int, rMaxA_int, rEqA_int, rNeA_int, rEqA_str, rNeA_str, rEqA_bl, rNeA_bl, rIsB_bl, rIsnotB_bl, rIsN_f, rIsN_t, tBM0, tBM, tyV_int, tyV_str, rBitlen_int, rSlA_str, rInA_str, rInA_ref, tFor_seq, tFor_rng1, tFor_rng2, tFor_rng3, tComp_seq, tComp_rng1, tComp_rng2, tComp_rng3, rngR1_int, rngR2_int, rngR3_int, compSt_one, rAll_ref, rAny_ref, rSum_ref, rListA_ref, rTupleA_ref, rDivmodA_int, rAppendA_ref, rSetA_ref, tTup, tLst, tCs, tTC, gTup_ref, gCons_cons, gNil_nil, gSub, tYes, tDrop, small_line, small_lt, Option.join_some, CDiv, CPowA, CMul, cxOf_K, ex_int,
 L2.start, List.map_cons, List.map_nil, List.length_cons, List.length_nil, List.replicate_zero, List.replicate_succ, List.append_nil, List.nil_append, List.cons_append, List.getElem?_cons_zero, List.getElem?_cons_succ, List.set_cons_zero, List.set_cons_succ, decide_eq_true_eq, Bool.not_eq_true', decide_eq_false_iff_not, if_true, if_false, ite_true, ite_false, Bool.false_eq_true, true_and, and_true, Bool.not_true, Bool.not_false, Int.reduceLT, Int.reduceLE, Int.reducePow, Int.reduceToNat, Int.reduceAdd, Int.reduceSub, Int.reduceMul, Int.reduceNeg, Nat.reducePow, Nat.reduceLT, Nat.reduceLeDiff, true_or, or_true, Int.reduceEq, and_self, Nat.reduceAdd, Nat.reduceSub, Int.neg_neg, reduceCtorEq, not_true_eq_false, not_false_eq_true,
 sp_Meter___init__, sp_Meter_know_one, sp_Meter_known, sp_Meter_half, sp_Meter_ran_out, sp_Meter_hurried, sp_lowest, sp_Ways___init__, sp_Ways_next_spread, sp_Ways_next_smooth, sp_Ways_least_wait, sp_Ways_measured, sp_Ways_ran_out, sp__law_cell_at, sp_Sender_put, sp_Sender_many, sp_Sender_thing, sp_Sender_known_above_base, sp_Sender_under_way, sp_Sender_thing_waits, sp_Sender_hurry_is_due, sp_Sender_new_may_go, sp_Sender_newly_known, sp_Sender_set_clock, sp_Sender_grow_base, sp_Sender_note_held, sp_Sender_go_again, sp_Sender_clock_is_out, sp_Sender_go_new, sp_Sender_ask_for_room, sp_Sender_go, sp_Sender_heard, sp_Sender___init__, sp_ahead, sp_Taker___init__, sp_Taker_room_left, sp_Taker_stand_in_order, sp_Taker_take, sp_Taker_answer, sp_Taker_read, sp__law_mixed, sp__law_ring, sp__law_put_on, sp__law_due, sp__law_turn, sp__law_alike, tFldC, sFldC, sAugC, tMtC, tMake, rFld_ref, rSetF_ref, rAugF_ref, rMt_ref, ex_ins, upd_same, upd_upd, L2.ex_som, fl_Meter_1_len, fl_Meter_1_new, fl_Meter_2_len, fl_Meter_2_new, fl_Meter_3_len, fl_Meter_3_new, fl_Meter_len, fl_Meter_new, fl_Meter_get_most, fl_Meter_get_window, fl_Meter_get_knee, fl_Meter_get_counted, fl_Meter_put_window, fl_Meter_put_knee, fl_Meter_put_counted, fl_Meter_no_known, fl_Meter_no_know_one, fl_Meter_no_half, fl_Meter_no_ran_out, fl_Meter_no_hurried, fl_Ways_1_len, fl_Ways_1_new, fl_Ways_2_len, fl_Ways_2_new, fl_Ways_3_len, fl_Ways_3_new, fl_Ways_len, fl_Ways_new, fl_Ways_get_longest, fl_Ways_get_smooth, fl_Ways_get_spread, fl_Ways_get_wait, fl_Ways_put_smooth, fl_Ways_put_spread, fl_Ways_put_wait, fl_Ways_no_measured, fl_Ways_no_next_spread, fl_Ways_no_next_smooth, fl_Ways_no_least_wait, fl_Ways_no_ran_out, fl_Sender_1_len, fl_Sender_1_new, fl_Sender_2_len, fl_Sender_2_new, fl_Sender_3_len, fl_Sender_3_new, fl_Sender_4_len, fl_Sender_4_new, fl_Sender_5_len, fl_Sender_5_new, fl_Sender_6_len, fl_Sender_6_new, fl_Sender_7_len, fl_Sender_7_new, fl_Sender_8_len, fl_Sender_8_new, fl_Sender_9_len, fl_Sender_9_new, fl_Sender_10_len, fl_Sender_10_new, fl_Sender_11_len, fl_Sender_11_new, fl_Sender_len, fl_Sender_new, fl_Sender_get_ring, fl_Sender_get_ways, fl_Sender_get_meter, fl_Sender_get_things, fl_Sender_get_base, fl_Sender_get_top, fl_Sender_get_edge, fl_Sender_get_clock, fl_Sender_get_base_hurried, fl_Sender_get_known_places, fl_Sender_get_first_turns, fl_Sender_get_gone_again, fl_Sender_put_base, fl_Sender_put_top, fl_Sender_put_edge, fl_Sender_put_clock, fl_Sender_put_base_hurried, fl_Sender_no_put, fl_Sender_no_many, fl_Sender_no_heard, fl_Sender_no_grow_base, fl_Sender_no_note_held, fl_Sender_no_newly_known, fl_Sender_no_known_above_base, fl_Sender_no_under_way, fl_Sender_no_thing_waits, fl_Sender_no_clock_is_out, fl_Sender_no_hurry_is_due, fl_Sender_no_new_may_go, fl_Sender_no_go, fl_Sender_no_set_clock, fl_Sender_no_go_again, fl_Sender_no_go_new, fl_Sender_no_ask_for_room, fl_Taker_2_len, fl_Taker_2_new, fl_Taker_3_len, fl_Taker_3_new, fl_Taker_4_len, fl_Taker_4_new, fl_Taker_len, fl_Taker_new, fl_Taker_get_ring, fl_Taker_get_room, fl_Taker_get_got, fl_Taker_get_out, fl_Taker_get_kept, fl_Taker_put_got, fl_Taker_put_out, fl_Taker_no_room_left, fl_Taker_no_take, fl_Taker_no_stand_in_order, fl_Taker_no_answer, fl_Taker_no_read, tDNewK, rDIn_ref, dinO_t, dinO_f, rDGet_ref, dgO_k, sDPutI, rDPut_ref, dpO_k, tDPopI, rIsD_ref, isDO_k, rDPop_ref, dopO_k, tAug, rLenC_ref, lenD_k, tRngV, rRngV_int, rListB_ref, listO_rng, rSGet_ref, sgO_k, sDPutS, rSPut_ref, spO_k, tDisp, tPairs, tDPopD, rDPopD_ref, dodO_k, tDGtD, rDGtD_ref, dgtO_k, tDSdD, rDSdD_ref, dsdO_k, tWhile, rIxB_ref, rIxB_str, ixO_lst, ixO_tup, atI_0, atI_1, atI_2, atI_3, atI_4, atI_5, L2.atI_last, gTupB_ref, gO_tup, rLenB_ref, rLenB_str, lenO_lst, lenO_tup, rIsiB_ref, rIsiB_i, rIsiB_b, rIsiB_s, isiO_tup, isiO_lst, ex_lst, ex_lst2, tSw, swV_ref, swO_tup, rMinB_ref, rMaxB_ref, $[$es:term],*])
local macro_rules | `(tactic| walk_at "wps") => `(tactic| exists true_and)
section
variable {C_Meter C_Ways C_Sender C_Taker : Addr} {P : Program} {w : World} {K : PySem.W.Frag} {mg : Str → Option Value} {base : Heap}
--SPLIT
theorem ok_Meter___init__ (T : Txt K mg C_Meter C_Ways C_Sender C_Taker)  : MtAt P w K mg base CX0 C_Meter "__init__" 1 ["self", "most"] (sp_Meter___init__ C_Meter) := by
 refine T.d_Meter___init__.fn sc_Meter___init__ bd_Meter___init__ (fun vs H Q E h => ?_) fun f cdv A outer s H vs Q E HR h => ?_
 ·unfold sp_Meter___init__ at h; split at h <;> first | rfl | exact h.elim
 ·unfold sp_Meter___init__ at h
  split at h
  ·rename_i p m
   refine ⟨_, (pss_cons (ps_fldC (pv 0) (pv 1) T.k_Meter T.n_Meter_most)
 (pss_cons (ps_fldC (pv 0) (pe_callBQ (call_minA rfl) (by rfl) T.b_min bt_min (pa_q pe_int (pa_q (pv 1) pa_nil))) T.k_Meter T.n_Meter_window)
 (pss_cons (ps_fldC (pv 0) (pv 1) T.k_Meter T.n_Meter_knee)
 (pss_one (ps_fldC (pv 0) pe_int T.k_Meter T.n_Meter_counted))))), ?_⟩
   obtain ⟨dx, hp, q⟩ := h
   exists hp
   exact q
  ·exact h.elim
theorem ok_Meter_know_one (T : Txt K mg C_Meter C_Ways C_Sender C_Taker)  : MtAt P w K mg base CX0 C_Meter "know_one" 1 ["self"] (sp_Meter_know_one C_Meter) := by
 refine T.d_Meter_know_one.fn sc_Meter_know_one bd_Meter_know_one (fun vs H Q E h => ?_) fun f cdv A outer s H vs Q E HR h => ?_
 ·unfold sp_Meter_know_one at h; split at h <;> first | rfl | exact h.elim
 ·unfold sp_Meter_know_one at h
  split at h
  ·rename_i p
   refine ⟨_, (pss_cons (ps_if (pt_cmpR (op_eqK K rfl HR.units) (pe_fldC (pv 0) T.k_Meter T.n_Meter_window rfl) (pe_fldC (pv 0) T.k_Meter T.n_Meter_most rfl) (nomark _)) (pss_one ps_retN) pss_nil)
 (pss_cons (ps_if (pt_cmpR op_lt (pe_fldC (pv 0) T.k_Meter T.n_Meter_window rfl) (pe_fldC (pv 0) T.k_Meter T.n_Meter_knee rfl) (nomark _)) (pss_cons (ps_augC (pv 0) pe_int T.k_Meter T.n_Meter_window iop_add)
 (pss_one ps_retN)) pss_nil)
 (pss_cons (ps_augC (pv 0) pe_int T.k_Meter T.n_Meter_counted iop_add)
 (pss_one (ps_if (pt_cmpR (op_eqK K rfl HR.units) (pe_fldC (pv 0) T.k_Meter T.n_Meter_counted rfl) (pe_fldC (pv 0) T.k_Meter T.n_Meter_window rfl) (nomark _)) (pss_cons (ps_augC (pv 0) pe_int T.k_Meter T.n_Meter_window iop_add)
 (pss_one (ps_fldC (pv 0) pe_int T.k_Meter T.n_Meter_counted))) pss_nil))))), ?_⟩
   obtain ⟨dx, m, w, k, c, hp, q⟩ := h
   exists hp
   unfold MeterM.k1 at q
   split
   ·rename_i c1
    rw [if_pos c1] at q
    rw [upd_id hp] at q
    exact q
   ·rename_i c1
    rw [if_neg c1] at q
    split
    ·rename_i c2
     rw [if_pos c2] at q
     exact q
    ·rename_i c2
     rw [if_neg c2] at q
     split
     ·rename_i c3
      rw [if_pos c3] at q
      exact q
     ·rename_i c3
      rw [if_neg c3] at q
      exact q
  ·exact h.elim
theorem ok_Meter_known (T : Txt K mg C_Meter C_Ways C_Sender C_Taker)  : MtAt P w K mg base CX0 C_Meter "known" 2 ["self", "many"] (sp_Meter_known C_Meter) := by
 refine T.d_Meter_known.fn sc_Meter_known bd_Meter_known (fun vs H Q E h => ?_) fun f cdv A outer s H vs Q E HR h => ?_
 ·unfold sp_Meter_known at h; split at h <;> first | rfl | exact h.elim
 ·unfold sp_Meter_known at h
  split at h
  ·rename_i p n
   refine ⟨_, (pss_one (ps_for PassesOwn.never rfl (pj_range1 rfl T.b_range (pa_q (pv 1) pa_nil)) (pg_name (i := 2) sc_Meter_known.nd rfl (Or.inl rfl)) (pss_one (ps_exprQ (pe_mtC0 (pv 0) T.k_Meter (ok_Meter_know_one T) HR (by decide)))))), ?_⟩
   obtain ⟨hn, dx, m, w, k, c, hp, q⟩ := h
   walk_at "wps"
   refine ⟨by omega, ?_⟩
   refine fo_rng (fun i σ H' => H' = upd H p (.ins C_Meter dx (fl_Meter (.int m) (.int (MeterM.kn m k i (w, c)).1) (.int k) (.int (MeterM.kn m k i (w, c)).2))) ∧ ∃ v2, σ = [some (.ref p), some (.int n), v2]) ⟨by rw [MeterM.kn]; exact (upd_id hp).symm, none, rfl⟩ (fun i σ H' hi hp' => ?_) (fun σ H' hp' => ?_)
   ·obtain ⟨rfl, v2, rfl⟩ := hp'
    walk_at "wps"
    refine ⟨dx, m, _, k, _, rfl, ?_, _, rfl⟩
    rfl
   ·obtain ⟨rfl, v2, rfl⟩ := hp'
    exact q
  ·exact h.elim
theorem ok_Meter_half (T : Txt K mg C_Meter C_Ways C_Sender C_Taker)  : MtAt P w K mg base CX0 C_Meter "half" 1 ["self"] (sp_Meter_half C_Meter) := by
 refine T.d_Meter_half.fn sc_Meter_half bd_Meter_half (fun vs H Q E h => ?_) fun f cdv A outer s H vs Q E HR h => ?_
 ·unfold sp_Meter_half at h; split at h <;> first | rfl | exact h.elim
 ·unfold sp_Meter_half at h
  split at h
  ·rename_i p
   refine ⟨_, (pss_one (ps_ret (pe_callBQ (call_maxA rfl) (by rfl) T.b_max bt_max (pa_q pe_int (pa_q (pe_op op_fdiv (pe_fldC (pv 0) T.k_Meter T.n_Meter_window rfl) pe_int) pa_nil))))), ?_⟩
   obtain ⟨dx, m, w, k, c, hp, q⟩ := h
   exists hp
   exact q
  ·exact h.elim
theorem ok_Meter_ran_out (T : Txt K mg C_Meter C_Ways C_Sender C_Taker)  : MtAt P w K mg base CX0 C_Meter "ran_out" 2 ["self"] (sp_Meter_ran_out C_Meter) := by
 refine T.d_Meter_ran_out.fn sc_Meter_ran_out bd_Meter_ran_out (fun vs H Q E h => ?_) fun f cdv A outer s H vs Q E HR h => ?_
 ·unfold sp_Meter_ran_out at h; split at h <;> first | rfl | exact h.elim
 ·unfold sp_Meter_ran_out at h
  split at h
  ·rename_i p
   refine ⟨_, (pss_cons (ps_fldC (pv 0) (pe_mtC0 (pv 0) T.k_Meter (ok_Meter_half T) HR (by decide)) T.k_Meter T.n_Meter_knee)
 (pss_cons (ps_fldC (pv 0) pe_int T.k_Meter T.n_Meter_window)
 (pss_one (ps_fldC (pv 0) pe_int T.k_Meter T.n_Meter_counted)))), ?_⟩
   obtain ⟨dx, m, w, k, c, hp, q⟩ := h
   exists hp
   exact ⟨dx, m, w, k, c, rfl, q⟩
  ·exact h.elim
theorem ok_Meter_hurried (T : Txt K mg C_Meter C_Ways C_Sender C_Taker)  : MtAt P w K mg base CX0 C_Meter "hurried" 2 ["self"] (sp_Meter_hurried C_Meter) := by
 refine T.d_Meter_hurried.fn sc_Meter_hurried bd_Meter_hurried (fun vs H Q E h => ?_) fun f cdv A outer s H vs Q E HR h => ?_
 ·unfold sp_Meter_hurried at h; split at h <;> first | rfl | exact h.elim
 ·unfold sp_Meter_hurried at h
  split at h
  ·rename_i p
   refine ⟨_, (pss_cons (ps_fldC (pv 0) (pe_mtC0 (pv 0) T.k_Meter (ok_Meter_half T) HR (by decide)) T.k_Meter T.n_Meter_knee)
 (pss_cons (ps_fldC (pv 0) (pe_fldC (pv 0) T.k_Meter T.n_Meter_knee rfl) T.k_Meter T.n_Meter_window)
 (pss_one (ps_fldC (pv 0) pe_int T.k_Meter T.n_Meter_counted)))), ?_⟩
   obtain ⟨dx, m, w, k, c, hp, q⟩ := h
   exists hp
   exact ⟨dx, m, w, k, c, rfl, q⟩
  ·exact h.elim
theorem ok_lowest (T : Txt K mg C_Meter C_Ways C_Sender C_Taker)  : FnAt P w K mg base CX0 "lowest" 1 ["top", "bottom"] sp_lowest := by
 refine T.d_lowest.fn sc_lowest bd_lowest (fun vs H Q E h => ?_) fun f cdv A outer s H vs Q E HR h => ?_
 ·unfold sp_lowest at h; split at h <;> first | rfl | exact h.elim
 ·unfold sp_lowest at h
  split at h
  ·rename_i t b
   refine ⟨_, (pss_cons (ps_setQ (i := 2) sc_lowest.nd rfl (Or.inl rfl) (pe_op op_and (pe_op op_or (pv 0) (pv 1)) (pe_un un_neg (pe_op op_or (pv 0) (pv 1)))))
 (pss_one (ps_ret (pe_tup (pa_q (pe_op op_fdivW (pv 0) (pv 2)) (pa_q (pe_op op_fdivW (pv 1) (pv 2)) pa_nil)))))), ?_⟩
   obtain ⟨⟨h0, h1, h2⟩, q⟩ := h
   walk_at "wps"
   rw [WaysI.lowbit h0 h1]
   have hl := WaysI.lb_pos h0 h1
   have hd : ∀ i, CDivW i (WaysM.lb (t.toNat ||| b.toNat) : Nat) := fun i => ⟨hl.1, h2.le (Int.le_of_lt hl.1) hl.2⟩
   exact ⟨hd _, hd _, q⟩
  ·exact h.elim
theorem ok_Ways___init__ (T : Txt K mg C_Meter C_Ways C_Sender C_Taker)  : MtAt P w K mg base CX0 C_Ways "__init__" 1 ["self", "first", "longest"] (sp_Ways___init__ C_Ways) := by
 refine T.d_Ways___init__.fn sc_Ways___init__ bd_Ways___init__ (fun vs H Q E h => ?_) fun f cdv A outer s H vs Q E HR h => ?_
 ·unfold sp_Ways___init__ at h; split at h <;> first | rfl | exact h.elim
 ·unfold sp_Ways___init__ at h
  split at h
  ·rename_i p f l
   refine ⟨_, (pss_cons (ps_fldC (pv 0) (pv 2) T.k_Ways T.n_Ways_longest)
 (pss_cons (ps_fldC (pv 0) pe_non T.k_Ways T.n_Ways_smooth)
 (pss_cons (ps_fldC (pv 0) pe_non T.k_Ways T.n_Ways_spread)
 (pss_one (ps_fldC (pv 0) (pv 1) T.k_Ways T.n_Ways_wait))))), ?_⟩
   obtain ⟨dx, hp, q⟩ := h
   exists hp
   exact q
  ·exact h.elim
theorem ok_Ways_next_spread (T : Txt K mg C_Meter C_Ways C_Sender C_Taker)  : MtAt P w K mg base CX0 C_Ways "next_spread" 2 ["self", "m"] (sp_Ways_next_spread C_Ways) := by
 refine T.d_Ways_next_spread.fn sc_Ways_next_spread bd_Ways_next_spread (fun vs H Q E h => ?_) fun f cdv A outer s H vs Q E HR h => ?_
 ·unfold sp_Ways_next_spread at h; split at h <;> first | rfl | exact h.elim
 ·unfold sp_Ways_next_spread at h
  split at h
  ·rename_i p m
   refine ⟨_, (pss_cons (ps_setQ (i := 2) sc_Ways_next_spread.nd rfl (Or.inl rfl) (pe_op op_mulW (pe_ix (ix_B K rfl) (pe_fldC (pv 0) T.k_Ways T.n_Ways_smooth rfl) pe_int (fun _ _ => rfl)) (pe_ix (ix_B K rfl) (pe_fldC (pv 0) T.k_Ways T.n_Ways_spread rfl) pe_int (fun _ _ => rfl))))
 (pss_hold (pss_cons (ps_setQ (i := 3) sc_Ways_next_spread.nd rfl (Or.inl rfl) (pe_callBQ call_abs (by rfl) T.b_abs bt_abs (pa_q (pe_op op_sub (pe_ix (ix_B K rfl) (pe_fldC (pv 0) T.k_Ways T.n_Ways_smooth rfl) pe_int (fun _ _ => rfl)) (pe_op op_mulW (pv 1) (pe_ix (ix_B K rfl) (pe_fldC (pv 0) T.k_Ways T.n_Ways_smooth rfl) pe_int (fun _ _ => rfl)))) pa_nil)))
 (pss_hold (pss_one (ps_ret (pe_fnQ (ok_lowest T) HR (by decide) rfl (pa_q (pe_op (op_addK K rfl) (pe_op op_mulW (pe_op op_mul pe_int (pe_ix (ix_B K rfl) (pe_fldC (pv 0) T.k_Ways T.n_Ways_spread rfl) pe_int (fun _ _ => rfl))) (pe_ix (ix_B K rfl) (pe_fldC (pv 0) T.k_Ways T.n_Ways_smooth rfl) pe_int (fun _ _ => rfl))) (pe_op op_mulW (pv 3) (pe_ix (ix_B K rfl) (pe_fldC (pv 0) T.k_Ways T.n_Ways_spread rfl) pe_int (fun _ _ => rfl)))) (pa_q (pe_op op_mul pe_int (pv 2)) pa_nil))))))))), ?_⟩
   obtain ⟨dx, L, w, a, A, b, B, W, ⟨ps, pp, hp, hs, hq⟩, q⟩ := h
   generalize h_u1 : tHold _ = u1
   exists hp, hs, hq
   have m2 := W.mB
   have b3 : Bd 1002 (3 * b) := Bd.mul (a := 2) (Bd.c (k := 3) (by decide)) W.b1
   have hAB := W.A1.mul W.B1
   have d := ((W.a1.up (show 1000 ≤ 1020 by decide)).sub (m2.mul W.A1)).abs
   have p1 := Int.mul_pos W.A0 W.B0
   refine ⟨mulW_B W.A1 W.B1 (by decide) (by decide), ?_⟩
   rw [← h_u1, tHold]
   generalize h_u2 : tHold _ = u2
   exists hp, hs, hq
   refine ⟨mulW_B m2 W.A1 (by decide) (by decide), _, rfl, ?_⟩
   rw [absE]
   rw [← h_u2, tHold]
   exists hp, hs, hq
   refine ⟨mulW_B b3 W.A1 (by decide) (by decide), mulW_B d W.B1 (by decide) (by decide), ⟨?_, by omega, ((Bd.c (n := 3) (k := 4) (by decide)).mul hAB).up (by decide)⟩, q⟩
   have := Int.mul_nonneg (Int.mul_nonneg (show (0 : Int) ≤ 3 by decide) W.b0) (Int.le_of_lt W.A0)
   have := Int.mul_nonneg (Int.natCast_nonneg (a - m * A).natAbs) (Int.le_of_lt W.B0)
   omega
  ·exact h.elim
theorem ok_Ways_next_smooth (T : Txt K mg C_Meter C_Ways C_Sender C_Taker)  : MtAt P w K mg base CX0 C_Ways "next_smooth" 2 ["self", "m"] (sp_Ways_next_smooth C_Ways) := by
 refine T.d_Ways_next_smooth.fn sc_Ways_next_smooth bd_Ways_next_smooth (fun vs H Q E h => ?_) fun f cdv A outer s H vs Q E HR h => ?_
 ·unfold sp_Ways_next_smooth at h; split at h <;> first | rfl | exact h.elim
 ·unfold sp_Ways_next_smooth at h
  split at h
  ·rename_i p m
   refine ⟨_, (pss_one (ps_ret (pe_fnQ (ok_lowest T) HR (by decide) rfl (pa_q (pe_op (op_addK K rfl) (pe_op op_mul pe_int (pe_ix (ix_B K rfl) (pe_fldC (pv 0) T.k_Ways T.n_Ways_smooth rfl) pe_int (fun _ _ => rfl))) (pe_op op_mulW (pv 1) (pe_ix (ix_B K rfl) (pe_fldC (pv 0) T.k_Ways T.n_Ways_smooth rfl) pe_int (fun _ _ => rfl)))) (pa_q (pe_op op_mul pe_int (pe_ix (ix_B K rfl) (pe_fldC (pv 0) T.k_Ways T.n_Ways_smooth rfl) pe_int (fun _ _ => rfl))) pa_nil))))), ?_⟩
   obtain ⟨dx, L, s, ps, w, a, A, ⟨m0, m1, a0, A0, A1⟩, hp, hs, q⟩ := h
   exists hp, hs
   have := Int.mul_nonneg m0 (Int.le_of_lt A0)
   exact ⟨mulW_l (by omega), ⟨by omega, by omega, ((Bd.c (n := 3) (k := 4) (by decide)).mul A1).up (by decide)⟩, q⟩
  ·exact h.elim
theorem ok_Ways_least_wait (T : Txt K mg C_Meter C_Ways C_Sender C_Taker)  : MtAt P w K mg base CX0 C_Ways "least_wait" 1 ["self"] (sp_Ways_least_wait C_Ways) := by
 refine T.d_Ways_least_wait.fn sc_Ways_least_wait bd_Ways_least_wait (fun vs H Q E h => ?_) fun f cdv A outer s H vs Q E HR h => ?_
 ·unfold sp_Ways_least_wait at h; split at h <;> first | rfl | exact h.elim
 ·unfold sp_Ways_least_wait at h
  split at h
  ·rename_i p
   refine ⟨_, (pss_cons (ps_setQ (i := 1) sc_Ways_least_wait.nd rfl (Or.inl rfl) (pe_op (op_addK K rfl) (pe_op op_mulW (pe_ix (ix_B K rfl) (pe_fldC (pv 0) T.k_Ways T.n_Ways_smooth rfl) pe_int (fun _ _ => rfl)) (pe_ix (ix_B K rfl) (pe_fldC (pv 0) T.k_Ways T.n_Ways_spread rfl) pe_int (fun _ _ => rfl))) (pe_op op_mulW (pe_op op_mul pe_int (pe_ix (ix_B K rfl) (pe_fldC (pv 0) T.k_Ways T.n_Ways_spread rfl) pe_int (fun _ _ => rfl))) (pe_ix (ix_B K rfl) (pe_fldC (pv 0) T.k_Ways T.n_Ways_smooth rfl) pe_int (fun _ _ => rfl)))))
 (pss_hold (pss_one (ps_ret (pe_un un_neg (pe_op op_fdivW (pe_un un_neg (pv 1)) (pe_op op_mulW (pe_ix (ix_B K rfl) (pe_fldC (pv 0) T.k_Ways T.n_Ways_smooth rfl) pe_int (fun _ _ => rfl)) (pe_ix (ix_B K rfl) (pe_fldC (pv 0) T.k_Ways T.n_Ways_spread rfl) pe_int (fun _ _ => rfl))))))))), ?_⟩
   obtain ⟨dx, L, w, a, A, b, B, ⟨A0, B0, a1, A1, b1, B1⟩, ⟨ps, pp, hp, hs, hq⟩, q⟩ := h
   generalize h_u1 : tHold _ = u1
   exists hp, hs, hq
   refine ⟨mulW_B a1 B1 (by decide) (by decide), mulW_B ((Bd.c (n := 3) (k := 4) (by decide)).mul b1) A1 (by decide) (by decide), ?_⟩
   rw [← h_u1, tHold]
   exists hp, hs, hq
   exact ⟨mulW_B A1 B1 (by decide) (by decide), divW_B (Int.mul_pos A0 B0) (A1.mul B1) (by decide), q⟩
  ·exact h.elim
theorem ok_Ways_measured (T : Txt K mg C_Meter C_Ways C_Sender C_Taker)  : MtAt P w K mg base CX0 C_Ways "measured" 3 ["self", "m"] (sp_Ways_measured C_Ways) := by
 refine T.d_Ways_measured.fn sc_Ways_measured bd_Ways_measured (fun vs H Q E h => ?_) fun f cdv A outer s H vs Q E HR h => ?_
 ·unfold sp_Ways_measured at h; split at h <;> first | rfl | exact h.elim
 ·unfold sp_Ways_measured at h
  split at h
  ·rename_i p m
   refine ⟨_, (pss_cons (ps_if (pt_cmpR op_isNA (pe_fldC (pv 0) T.k_Ways T.n_Ways_smooth rfl) pe_non (nomark _)) (pss_cons (ps_fldC (pv 0) (pe_tup (pa_q (pv 1) (pa_q pe_int pa_nil))) T.k_Ways T.n_Ways_smooth)
 (pss_hold (pss_one (ps_fldC (pv 0) (pe_fnQ (ok_lowest T) HR (by decide) rfl (pa_q (pv 1) (pa_q pe_int pa_nil))) T.k_Ways T.n_Ways_spread)))) (pss_cons (ps_fldC (pv 0) (pe_mtC (pv 0) T.k_Ways (ok_Ways_next_spread T) HR (by decide) (pa_q (pv 1) pa_nil)) T.k_Ways T.n_Ways_spread)
 (pss_hold (pss_one (ps_fldC (pv 0) (pe_mtC (pv 0) T.k_Ways (ok_Ways_next_smooth T) HR (by decide) (pa_q (pv 1) pa_nil)) T.k_Ways T.n_Ways_smooth)))))
 (pss_hold (pss_one (ps_fldC (pv 0) (pe_callBQ (call_maxA rfl) (by rfl) T.b_max bt_max (pa_q (pe_cst rfl T.c_WAIT_LEAST) (pa_q (pe_callBQ (call_minA rfl) (by rfl) T.b_min bt_min (pa_q (pe_fldC (pv 0) T.k_Ways T.n_Ways_longest rfl) (pa_q (pe_mtC0 (pv 0) T.k_Ways (ok_Ways_least_wait T) HR (by decide)) pa_nil))) pa_nil))) T.k_Ways T.n_Ways_wait)))), ?_⟩
   obtain ⟨hm, ⟨dx, L, w, hp, q⟩ | ⟨dx, L, w, a, A, b, B, W, ⟨ps, pp, hp, hs, hq⟩, q⟩⟩ := h
   ·generalize h_u1 : tHold _ = u1
    generalize h_u2 : tHold _ = u2
    generalize h_u3 : tHold _ = u3
    exists hp
    intro p1 hp1
    have n1 : p ≠ p1 := ne_of_none hp hp1
    have e1 := upd_old (o := .tup [V.int m, V.int 1]) hp hp1
    exists e1
    rw [← h_u1, tHold]
    walk_at "wps"
    refine ⟨⟨hm.1, Bd.up (a := 2) (Bd.c (k := 2) (by decide)) (by decide)⟩, fun p2 hp2 => ?_⟩
    have n2 : p2 ≠ p := fresh_ne hp2
    have n3 : p1 ≠ p2 := fun e => by rw [← e, upd_ne n1.symm, upd_same] at hp2; cases hp2
    have e2 := upd_old (o := .tup [V.int (WaysM.low m 2).1, V.int (WaysM.low m 2).2]) (upd_same (H := upd H p1 (.tup [V.int m, V.int 1])) (a := p) (o := .ins C_Ways dx (fl_Ways (.int L) (.ref p1) .non (.int w)))) hp2
    exists e2
    rw [← h_u3, tHold]
    walk_at "wps"
    obtain ⟨s, Lo⟩ := WaysM.low_spec (t := m) (b := 2) hm.1 (by decide)
    have l1 := Lo.t0
    have l2 := Lo.b0
    have l3 := Lo.tl
    have l4 := Lo.bl
    have mb : Bd 20 m := Bd.of hm.1 (by omega)
    refine ⟨dx, L, w, m, 1, (WaysM.low m 2).1, (WaysM.low m 2).2, ⟨by decide, l2, mb.up (by decide), Bd.up (a := 1) (Bd.c (k := 1) (by decide)) (by decide), (mb.le l1 l3).up (by decide), (Bd.le (Bd.c (n := 2) (k := 2) (by decide)) (Int.le_of_lt l2) l4).up (by decide)⟩, ⟨p1, p2, upd_same, ?_, ?_⟩, ?_⟩
    ·rw [upd_ne n1.symm, upd_ne n3, upd_ne n1.symm, upd_same]
    ·rw [upd_ne n2, upd_same]
    ·refine q _ ?_ ⟨p1, p2, upd_same, ?_, ?_⟩
     ·intro b o hb hne
      rw [upd_ne hne, upd_ne, upd_ne hne, upd_ne (ne_of_none hb hp1)]
      ·exact hb
      ·intro e; rw [e] at hb; rw [upd_ne n2, upd_ne n3.symm] at hp2; rw [hb] at hp2; cases hp2
     ·rw [upd_ne n1.symm, upd_ne n3, upd_ne n1.symm, upd_same]
     ·rw [upd_ne n2, upd_same]
   ·generalize h_u1 : tHold _ = u1
    generalize h_u2 : tHold _ = u2
    generalize h_u3 : tHold _ = u3
    exists hp, hs, hq
    have n0 : ps ≠ p := ne_of hs hp (by simp)
    refine ⟨dx, L, w, a, A, b, B, W, ⟨ps, pp, hp, hs, hq⟩, fun q1 hq1 => ?_⟩
    have n1 : p ≠ q1 := ne_of_none hp hq1
    have n4 : ps ≠ q1 := ne_of_none hs hq1
    have e1 := upd_old (o := .tup [V.int (nsp a A b B m).1, V.int (nsp a A b B m).2]) hp hq1
    exists e1
    rw [← h_u2, tHold]
    walk_at "wps"
    refine ⟨dx, L, .ref q1, ps, w, a, A, ⟨hm.1, hm.2, W.a0, W.A0, W.A1⟩, rfl, by rw [upd_ne n0, upd_ne n4]; exact hs, fun q2 hq2 => ?_⟩
    have n2 : q2 ≠ p := fresh_ne hq2
    have n3 : q1 ≠ q2 := fun e => by rw [← e, upd_ne n1.symm, upd_same] at hq2; cases hq2
    have e2 := upd_old (o := .tup [V.int (nsm a A m).1, V.int (nsm a A m).2]) (upd_same (H := upd H q1 (.tup [V.int (nsp a A b B m).1, V.int (nsp a A b B m).2])) (a := p) (o := .ins C_Ways dx (fl_Ways (.int L) (.ref ps) (.ref q1) (.int w)))) hq2
    exists e2
    rw [← h_u3, tHold]
    walk_at "wps"
    have B1 := W.nsmB
    have B2 := W.nspB
    refine ⟨dx, L, w, _, _, _, _, ⟨B1.2.1, B2.2.1, B1.2.2.1, B1.2.2.2, B2.2.2.1, B2.2.2.2⟩, ⟨q2, q1, upd_same, ?_, ?_⟩, ?_⟩
    ·rw [upd_ne n2, upd_same]
    ·rw [upd_ne n1.symm, upd_ne n3, upd_ne n1.symm, upd_same]
    ·refine q _ ?_ ⟨q2, q1, upd_same, ?_, ?_⟩
     ·intro b o hb hne
      rw [upd_ne hne, upd_ne, upd_ne hne, upd_ne (ne_of_none hb hq1)]
      ·exact hb
      ·intro e; rw [e] at hb; rw [upd_ne n2, upd_ne n3.symm] at hq2; rw [hb] at hq2; cases hq2
     ·rw [upd_ne n2, upd_same]
     ·rw [upd_ne n1.symm, upd_ne n3, upd_ne n1.symm, upd_same]
  ·exact h.elim
theorem ok_Ways_ran_out (T : Txt K mg C_Meter C_Ways C_Sender C_Taker)  : MtAt P w K mg base CX0 C_Ways "ran_out" 1 ["self"] (sp_Ways_ran_out C_Ways) := by
 refine T.d_Ways_ran_out.fn sc_Ways_ran_out bd_Ways_ran_out (fun vs H Q E h => ?_) fun f cdv A outer s H vs Q E HR h => ?_
 ·unfold sp_Ways_ran_out at h; split at h <;> first | rfl | exact h.elim
 ·unfold sp_Ways_ran_out at h
  split at h
  ·rename_i p
   refine ⟨_, (pss_one (ps_fldC (pv 0) (pe_callBQ (call_minA rfl) (by rfl) T.b_min bt_min (pa_q (pe_op op_mul pe_int (pe_fldC (pv 0) T.k_Ways T.n_Ways_wait rfl)) (pa_q (pe_fldC (pv 0) T.k_Ways T.n_Ways_longest rfl) pa_nil))) T.k_Ways T.n_Ways_wait)), ?_⟩
   obtain ⟨dx, L, s, sp, w, hp, q⟩ := h
   exists hp
   exact q
  ·exact h.elim
theorem ok__law_cell_at (T : Txt K mg C_Meter C_Ways C_Sender C_Taker)  (a₀ : Addr) (ns : List Int) : FnAt P w K mg base CX0 "_law_cell_at" 1 ["_law_script", "_law_k"] (sp__law_cell_at K a₀ ns) := by
 refine T.d__law_cell_at.fn sc__law_cell_at bd__law_cell_at (fun vs H Q E h => ?_) fun f cdv A outer s H vs Q E HR h => ?_
 ·unfold sp__law_cell_at at h; split at h <;> first | rfl | exact h.elim
 ·unfold sp__law_cell_at at h
  split at h
  ·rename_i a k
   refine ⟨_, (pss_cons (ps_if (pt_cmpR op_lt (pv 1) (pe_callBQ (call_lenK K rfl) (by rfl) T.b_len bt_len (pa_q (pv 0) pa_nil)) (nomark _)) (pss_one (ps_ret (pe_ix (ix_K K rfl) (pv 0) (pv 1) (fun _ _ => rfl)))) pss_nil)
 (pss_one (ps_ret pe_int))), ?_⟩
   obtain ⟨rfl, hS, h0, q⟩ := h
   walk_at "wps"
   refine ⟨_, .inl hS, ?_⟩
   rw [List.length_map]
   split
   ·rename_i c; exact ixA_ints hS h0 c (q _)
   ·exact q _
  ·exact h.elim
theorem ok_ahead (T : Txt K mg C_Meter C_Ways C_Sender C_Taker)  : FnAt P w K mg base CX0 "ahead" 1 ["ring", "one", "other"] sp_ahead := by
 refine T.d_ahead.fn sc_ahead bd_ahead (fun vs H Q E h => ?_) fun f cdv A outer s H vs Q E HR h => ?_
 ·unfold sp_ahead at h; split at h <;> first | rfl | exact h.elim
 ·unfold sp_ahead at h
  split at h
  ·rename_i r a b
   refine ⟨_, (pss_one (ps_ret (pe_op op_mod (pe_op op_sub (pv 2) (pv 1)) (pv 0)))), ?_⟩
   walk_at "wps"
   exact h
  ·exact h.elim
theorem ok_Sender_put (T : Txt K mg C_Meter C_Ways C_Sender C_Taker)    : MtAt P w K mg base CX0 C_Sender "put" 1 ["self", "thing"] (sp_Sender_put C_Sender C_Ways C_Meter) := by
 refine T.d_Sender_put.fn sc_Sender_put bd_Sender_put (fun vs H Q E h => ?_) fun f cdv A outer s H vs Q E HR h => ?_
 ·unfold sp_Sender_put at h; split at h <;> first | rfl | exact h.elim
 ·unfold sp_Sender_put at h
  split at h
  ·rename_i x th
   refine ⟨_, (pss_one (ps_exprQ (pe_appendK K rfl (pe_fldC (pv 0) T.k_Sender T.n_Sender_things rfl) (pv 1)))), ?_⟩
   obtain ⟨A, z, hS, hl, q⟩ := h
   exists hS.hx, hS.ht
   refine ⟨tyV_list (SqL.of hS.ht), by rw [sizeLine_eq]; omega, q _ But.upd ?_⟩
   exact hS.row hS.ht _ z.Kn z.Fi (by simp) (by simp) upd_same (by rw [upd_ne (ne_of hS.hk hS.ht (by simp))]; exact hS.hk) (by rw [upd_ne (ne_of hS.hf hS.ht (by simp))]; exact hS.hf) (ne_of hS.ht hS.ha (by simp))
  ·exact h.elim
theorem ok_Sender_many (T : Txt K mg C_Meter C_Ways C_Sender C_Taker)    : MtAt P w K mg base CX0 C_Sender "many" 1 ["self"] (sp_Sender_many C_Sender C_Ways C_Meter) := by
 refine T.d_Sender_many.fn sc_Sender_many bd_Sender_many (fun vs H Q E h => ?_) fun f cdv A outer s H vs Q E HR h => ?_
 ·unfold sp_Sender_many at h; split at h <;> first | rfl | exact h.elim
 ·unfold sp_Sender_many at h
  split at h
  ·rename_i x
   refine ⟨_, (pss_one (ps_ret (pe_callBQ (call_lenB K rfl) (by rfl) T.b_len bt_len (pa_q (pe_fldC (pv 0) T.k_Sender T.n_Sender_things rfl) pa_nil)))), ?_⟩
   obtain ⟨A, z, hS, q⟩ := h
   exists hS.hx, hS.ht
   exact q
  ·exact h.elim
theorem ok_Sender_known_above_base (T : Txt K mg C_Meter C_Ways C_Sender C_Taker)    : MtAt P w K mg base CX0 C_Sender "known_above_base" 1 ["self"] (sp_Sender_known_above_base C_Sender C_Ways C_Meter) := by
 refine T.d_Sender_known_above_base.fn sc_Sender_known_above_base bd_Sender_known_above_base (fun vs H Q E h => ?_) fun f cdv A outer s H vs Q E HR h => ?_
 ·unfold sp_Sender_known_above_base at h; split at h <;> first | rfl | exact h.elim
 ·unfold sp_Sender_known_above_base at h
  split at h
  ·rename_i x
   refine ⟨_, (pss_one (ps_ret (pe_callBQ (call_lenB K rfl) (by rfl) T.b_len bt_len (pa_q (pe_comp (N := (["place", "self"] : List Str)) (nv := 1) (ix := [0]) rfl (cs_of (by kernel_rfl)) (pj_range2 rfl T.b_range (pa_q (pe_op (op_addK K rfl) (pe_fldC (pv 0) T.k_Sender T.n_Sender_base rfl) pe_int) (pa_q (pe_fldC (pv 0) T.k_Sender T.n_Sender_top rfl) pa_nil))) (fun _ _ _ _ _ => (pg_name (i := 0) (show ((["place", "self"] : List Str)).Nodup by decide) rfl (Or.inl rfl))) (fun _ _ _ _ _ => (pts_one (pt_cmp (pc_dI HR.units (pv 0) (pe_fldC (pv 1) T.k_Sender T.n_Sender_known_places rfl)) (nomarkQ rfl)))) (fun _ _ _ _ _ => (pv 0))) pa_nil)))), ?_⟩
   obtain ⟨A, z, hS, ⟨b0, b1, b2⟩, q⟩ := h
   exists hS.hx
   refine ⟨by omega, ?_⟩
   refine co_rng (p := fun v => match v with | .int i => knw z.Kn i | _ => false) (f := fun v => v) (small_ok (by omega)) ?_ ?_ ?_
   ·intro j hj Q' q'
    exists hS.hx, hS.hk
    exact q'
   ·intro j hj _ Q' q'
    walk_at "wps"
    exact q'
   have e := kab_len (z := z) rfl
   have kl := kab_le (z := z)
   refine ⟨small_ok (by rw [e]; omega), fun l hl => ?_⟩
   rw [e]
   exact q _ (same_upd hl)
  ·exact h.elim
theorem ok_Sender_under_way (T : Txt K mg C_Meter C_Ways C_Sender C_Taker)    : MtAt P w K mg base CX0 C_Sender "under_way" 2 ["self"] (sp_Sender_under_way C_Sender C_Ways C_Meter) := by
 refine T.d_Sender_under_way.fn sc_Sender_under_way bd_Sender_under_way (fun vs H Q E h => ?_) fun f cdv A outer s H vs Q E HR h => ?_
 ·unfold sp_Sender_under_way at h; split at h <;> first | rfl | exact h.elim
 ·unfold sp_Sender_under_way at h
  split at h
  ·rename_i x
   refine ⟨_, (pss_one (ps_ret (pe_op op_sub (pe_op op_sub (pe_fldC (pv 0) T.k_Sender T.n_Sender_top rfl) (pe_fldC (pv 0) T.k_Sender T.n_Sender_base rfl)) (pe_mtC0 (pv 0) T.k_Sender (ok_Sender_known_above_base T) HR (by decide))))), ?_⟩
   obtain ⟨A, z, hS, hb, q⟩ := h
   exists hS.hx
   exact ⟨A, z, hS, hb, fun H' sm => q H' sm⟩
  ·exact h.elim
theorem ok_Sender_thing_waits (T : Txt K mg C_Meter C_Ways C_Sender C_Taker)    : MtAt P w K mg base CX0 C_Sender "thing_waits" 2 ["self"] (sp_Sender_thing_waits C_Sender C_Ways C_Meter) := by
 refine T.d_Sender_thing_waits.fn sc_Sender_thing_waits bd_Sender_thing_waits (fun vs H Q E h => ?_) fun f cdv A outer s H vs Q E HR h => ?_
 ·unfold sp_Sender_thing_waits at h; split at h <;> first | rfl | exact h.elim
 ·unfold sp_Sender_thing_waits at h
  split at h
  ·rename_i x
   refine ⟨_, (pss_one (ps_ret (pe_cmpR op_lt (pe_fldC (pv 0) T.k_Sender T.n_Sender_top rfl) (pe_mtC0 (pv 0) T.k_Sender (ok_Sender_many T) HR (by decide)) (nomark _)))), ?_⟩
   obtain ⟨A, z, hS, q⟩ := h
   exists hS.hx
   exact ⟨A, z, hS, q⟩
  ·exact h.elim
theorem ok_Sender_hurry_is_due (T : Txt K mg C_Meter C_Ways C_Sender C_Taker)    : MtAt P w K mg base CX0 C_Sender "hurry_is_due" 2 ["self"] (sp_Sender_hurry_is_due C_Sender C_Ways C_Meter) := by
 refine T.d_Sender_hurry_is_due.fn sc_Sender_hurry_is_due bd_Sender_hurry_is_due (fun vs H Q E h => ?_) fun f cdv A outer s H vs Q E HR h => ?_
 ·unfold sp_Sender_hurry_is_due at h; split at h <;> first | rfl | exact h.elim
 ·unfold sp_Sender_hurry_is_due at h
  split at h
  ·rename_i x
   refine ⟨_, (pss_one (ps_ret (pe_and (pe_cmpR op_lt (pe_fldC (pv 0) T.k_Sender T.n_Sender_base rfl) (pe_fldC (pv 0) T.k_Sender T.n_Sender_top rfl) (nomark _)) (pe_and (pe_not (pe_fldC (pv 0) T.k_Sender T.n_Sender_base_hurried rfl)) (pe_one (pe_cmpR op_ge (pe_mtC0 (pv 0) T.k_Sender (ok_Sender_known_above_base T) HR (by decide)) (pe_cst rfl T.c_KNOWN_TO_HURRY) (nomark _))))))), ?_⟩
   obtain ⟨A, z, hS, hb, q⟩ := h
   exists hS.hx
   by_cases c1 : z.b < z.t
   ·rw [if_pos c1]
    cases c2 : z.hur
    ·rw [c2] at q
     refine ⟨A, z, hS, hb, fun H' sm => ?_⟩
     have := q H' sm
     simp only [decide_eq_true c1, Bool.true_and, Bool.not_false] at this
     simpa using this
    ·rw [c2] at q
     have := q H (Same.refl _)
     simpa [c1] using this
   ·rw [if_neg c1]
    have := q H (Same.refl _)
    simpa [c1] using this
  ·exact h.elim
theorem ok_Sender_new_may_go (T : Txt K mg C_Meter C_Ways C_Sender C_Taker)    : MtAt P w K mg base CX0 C_Sender "new_may_go" 3 ["self"] (sp_Sender_new_may_go C_Sender C_Ways C_Meter) := by
 refine T.d_Sender_new_may_go.fn sc_Sender_new_may_go bd_Sender_new_may_go (fun vs H Q E h => ?_) fun f cdv A outer s H vs Q E HR h => ?_
 ·unfold sp_Sender_new_may_go at h; split at h <;> first | rfl | exact h.elim
 ·unfold sp_Sender_new_may_go at h
  split at h
  ·rename_i x
   refine ⟨_, (pss_one (ps_ret (pe_and (pe_mtC0 (pv 0) T.k_Sender (ok_Sender_thing_waits T) HR (by decide)) (pe_and (pe_cmpR op_lt (pe_fldC (pv 0) T.k_Sender T.n_Sender_top rfl) (pe_fldC (pv 0) T.k_Sender T.n_Sender_edge rfl) (nomark _)) (pe_one (pe_cmpR op_lt (pe_mtC0 (pv 0) T.k_Sender (ok_Sender_under_way T) HR (by decide)) (pe_fldC (pe_fldC (pv 0) T.k_Sender T.n_Sender_meter rfl) T.k_Meter T.n_Meter_window rfl) (nomark _))))))), ?_⟩
   obtain ⟨A, z, hS, hb, q⟩ := h
   exists hS.hx
   refine ⟨A, z, hS, ?_⟩
   by_cases c1 : z.t < z.T.length
   ·rw [if_pos c1]
    by_cases c2 : z.t < z.e
    ·rw [if_pos c2]
     refine ⟨A, z, hS, hb, fun H' sm => ?_⟩
     have S' := hS.same sm
     obtain ⟨em, hi⟩ := S'.ms
     exists S'.hx, em
     have := q H' sm
     simpa [c1, c2] using this
    ·rw [if_neg c2]
     have := q H (Same.refl _)
     simpa [c1, c2] using this
   ·rw [if_neg c1]
    have := q H (Same.refl _)
    simpa [c1] using this
  ·exact h.elim
theorem ok_Sender_newly_known (T : Txt K mg C_Meter C_Ways C_Sender C_Taker)    : MtAt P w K mg base CX0 C_Sender "newly_known" 1 ["self", "places"] (sp_Sender_newly_known C_Sender C_Ways C_Meter) := by
 refine T.d_Sender_newly_known.fn sc_Sender_newly_known bd_Sender_newly_known (fun vs H Q E h => ?_) fun f cdv A outer s H vs Q E HR h => ?_
 ·unfold sp_Sender_newly_known at h; split at h <;> first | rfl | exact h.elim
 ·unfold sp_Sender_newly_known at h
  split at h
  ·rename_i x l
   refine ⟨_, (pss_cons (ps_setc (i := 2) (N := (["place", "self"] : List Str)) (nv := 1) (ix := [0]) rfl sc_Sender_newly_known.nd rfl rfl (cs_of (by kernel_rfl)) (pi_seqK K rfl (pv 1)) (fun _ _ _ _ _ => (pg_name (i := 0) (show ((["place", "self"] : List Str)).Nodup by decide) rfl (Or.inl rfl))) (fun _ _ _ _ _ => (pts_one (pt_cmp (pc_dNI HR.units (pv 0) (pe_fldC (pv 1) T.k_Sender T.n_Sender_known_places rfl)) (nomarkQ rfl)))) (fun _ _ _ _ _ => (pv 0)))
 (pss_cons (ps_for PassesOwn.never rfl (pi_seqK K rfl (pv 2)) (pg_name (i := 3) sc_Sender_newly_known.nd rfl (Or.inl rfl)) (pss_one (ps_dpI HR.units (pe_fldC (pv 0) T.k_Sender T.n_Sender_known_places rfl) (pv 3) pe_bl)))
 (pss_one (ps_ret (pv 2))))), ?_⟩
   obtain ⟨A, z, ps, hS, hl, hk, hpl, q⟩ := h
   walk_at "wps"
   refine co_list (xs := ps.map V.int) (p := fun v => match v with | .int i => !knw z.Kn i | _ => false) (f := fun v => v) (SqL.of hl) (small_ok (by rw [List.length_map]; omega)) ?_ ?_ ?_
   ·intro y hy Q' q'
    obtain ⟨i, _, rfl⟩ := List.mem_map.mp hy
    exists hS.hx, hS.hk
    exact q'
   ·intro y hy _ Q' q'
    walk_at "wps"
    exact q'
   rw [frs_eq]
   have hfl : (frs z.Kn ps).length ≤ ps.length := List.length_filter_le _ _
   refine ⟨small_ok (by rw [List.length_map]; omega), fun l1 hl1 => ?_⟩
   generalize frs z.Kn ps = fs at *
   have S1 := hS.same (same_upd (o := .lst (fs.map V.int)) hl1)
   have s1 := same_upd (o := .lst (fs.map V.int)) hl1
   have k1 := upd_same (H := H) (a := l1) (o := .lst (fs.map V.int))
   generalize upd H l1 (.lst (fs.map V.int)) = H1 at *
   refine fo_list (xs := fs.map V.int) (SqL.of k1) (fun i σ H' => H' l1 = some (.lst (fs.map V.int)) ∧ Fr6 x A H H' ∧ SdAt C_Sender C_Ways C_Meter H' x A { z with Kn := putAll z.Kn (fs.take i) } ∧ ∃ v, σ = [some (.ref x), some (.ref l), some (.ref l1), v]) ⟨k1, Fr6.of s1, S1, none, rfl⟩ (fun i σ H' _ hp => SqL.of hp.1) (fun i y σ H' hy hp => ?_) (fun σ H' hp => ?_)
   ·obtain ⟨h1, f1, S2, v, rfl⟩ := hp
    obtain ⟨c, rfl, hc⟩ := map_int_get hy
    have nlk : l1 ≠ A.pk := ne_of h1 S2.hk (by simp)
    have hkl : (putAll z.Kn (fs.take i)).length ≤ z.Kn.length + (fs.take i).length := putAll_len
    have htl : (fs.take i).length ≤ fs.length := by rw [List.length_take]; exact Nat.min_le_right _ _
    exists S2.hx, S2.hk
    refine ⟨by rw [sizeLine_eq]; omega, by rw [upd_ne nlk]; exact h1, fun b u e a1 a2 a3 a4 a5 a6 => by rw [upd_ne a5]; exact f1 b u e a1 a2 a3 a4 a5 a6, ?_, _, rfl⟩
    have et : putK (putAll z.Kn (fs.take i)) (ik c) (.bl true) = putAll z.Kn (fs.take (i + 1)) := by
     rw [List.take_add_one, hc]; exact putAll_snoc.symm
    rw [et]
    exact S2.row S2.hk z.T (putAll z.Kn (fs.take (i + 1))) z.Fi (by simp) (by simp) (by rw [upd_ne (ne_of S2.ht S2.hk (by simp))]; exact S2.ht) upd_same (by rw [upd_ne S2.kf.symm]; exact S2.hf) S2.ka
   ·obtain ⟨h1, f1, S2, v, rfl⟩ := hp
    rw [List.length_map, List.take_length] at S2
    walk_at "wps"
    exact q l1 _ hl1 f1 S2 h1
  ·exact h.elim
theorem ok_Sender_set_clock (T : Txt K mg C_Meter C_Ways C_Sender C_Taker)    : MtAt P w K mg base CX0 C_Sender "set_clock" 1 ["self", "turn"] (sp_Sender_set_clock C_Sender C_Ways C_Meter) := by
 refine T.d_Sender_set_clock.fn sc_Sender_set_clock bd_Sender_set_clock (fun vs H Q E h => ?_) fun f cdv A outer s H vs Q E HR h => ?_
 ·unfold sp_Sender_set_clock at h; split at h <;> first | rfl | exact h.elim
 ·unfold sp_Sender_set_clock at h
  split at h
  ·rename_i x n
   refine ⟨_, (pss_one (ps_fldC (pv 0) (pe_op (op_addK K rfl) (pv 1) (pe_fldC (pe_fldC (pv 0) T.k_Sender T.n_Sender_ways rfl) T.k_Ways T.n_Ways_wait rfl)) T.k_Sender T.n_Sender_clock)), ?_⟩
   obtain ⟨A, z, hS, q⟩ := h
   obtain ⟨s0, sp0, hw⟩ := hS.ws.ins
   exists hS.hx, hw
   exact q _ But.upd (hS.put _ _ _ _ _)
  ·exact h.elim
theorem ok_Sender_grow_base (T : Txt K mg C_Meter C_Ways C_Sender C_Taker)    : MtAt P w K mg base CX0 C_Sender "grow_base" 2 ["self", "steps"] (sp_Sender_grow_base C_Sender C_Ways C_Meter) := by
 refine T.d_Sender_grow_base.fn sc_Sender_grow_base bd_Sender_grow_base (fun vs H Q E h => ?_) fun f cdv A outer s H vs Q E HR h => ?_
 ·unfold sp_Sender_grow_base at h; split at h <;> first | rfl | exact h.elim
 ·unfold sp_Sender_grow_base at h
  split at h
  ·rename_i x st
   refine ⟨_, (pss_cons (ps_setQ (i := 2) sc_Sender_grow_base.nd rfl (Or.inl rfl) (pe_fldC (pv 0) T.k_Sender T.n_Sender_base rfl))
 (pss_cons (ps_augC (pv 0) (pv 1) T.k_Sender T.n_Sender_base iop_add)
 (pss_one (ps_ret (pe_mtC (pv 0) T.k_Sender (ok_Sender_newly_known T) HR (by decide) (pa_q (pe_callTyQ (call_listB K rfl rfl) (by rfl) T.b_list bt_list (pa_q (pe_rngV rfl T.b_range (pa_q (pv 2) (pa_q (pe_fldC (pv 0) T.k_Sender T.n_Sender_base rfl) pa_nil))) pa_nil)) pa_nil)))))), ?_⟩
   obtain ⟨A, z, hS, ⟨b0, b1, b2⟩, hst, hk, q⟩ := h
   exists hS.hx
   refine ⟨by omega, fun p hp => ⟨by omega, by omega, fun l hl => ?_⟩⟩
   have S1 := hS.put (z.b + st) z.t z.e z.clk z.hur
   have b1 : But x H (upd H x (HO.ins C_Sender A.dx (fl_Sender (V.int z.R) (V.ref A.pw) (V.ref A.pm) (V.ref A.pt) (V.int (z.b + st)) (V.int z.t) (V.int z.e) z.clk (V.bl z.hur) (V.ref A.pk) (V.ref A.pf) (V.ref A.pa)))) := But.upd
   generalize upd H x (HO.ins C_Sender A.dx (fl_Sender (V.int z.R) (V.ref A.pw) (V.ref A.pm) (V.ref A.pt) (V.int (z.b + st)) (V.int z.t) (V.int z.e) z.clk (V.bl z.hur) (V.ref A.pk) (V.ref A.pf) (V.ref A.pa))) = H1 at *
   have S2 := (S1.same (same_upd (o := .rng z.b (z.b + st)) hp)).same (same_upd (o := .lst (rngV z.b (z.b + st - z.b).toNat)) hl)
   have b2 : But x H (upd (upd H1 p (.rng z.b (z.b + st))) l (.lst (rngV z.b (z.b + st - z.b).toNat))) := (b1.new hp).new hl
   generalize upd (upd H1 p (.rng z.b (z.b + st))) l (.lst (rngV z.b (z.b + st - z.b).toNat)) = H2 at *
   have il : (irg z.b st.toNat).length ≤ 1000 := by unfold irg; rw [List.length_map, List.length_range]; omega
   refine ⟨A, _, irg z.b st.toNat, S2, by rw [show z.b + st - z.b = st by omega, irg_eq], hk, il, fun p1 H3 hp1 fr S3 hl3 => ?_⟩
   refine q _ p1 H3 rfl ?_ (fun b u e a1 a2 a3 a4 a5 a6 => fr b u (b2 b u e a1) a1 a2 a3 a4 a5 a6) S3 hl3
   cases e : H p1 with
   | none => rfl
   | some u =>
    exfalso
    by_cases c : p1 = x
    ·rw [c, S2.hx] at hp1; cases hp1
    ·rw [b2 p1 u e c] at hp1; cases hp1
  ·exact h.elim
theorem ok_Sender_note_held (T : Txt K mg C_Meter C_Ways C_Sender C_Taker)    : MtAt P w K mg base CX0 C_Sender "note_held" 2 ["self", "held"] (sp_Sender_note_held C_Sender C_Ways C_Meter) := by
 refine T.d_Sender_note_held.fn sc_Sender_note_held bd_Sender_note_held (fun vs H Q E h => ?_) fun f cdv A outer s H vs Q E HR h => ?_
 ·unfold sp_Sender_note_held at h; split at h <;> first | rfl | exact h.elim
 ·unfold sp_Sender_note_held at h
  split at h
  ·rename_i x t
   refine ⟨_, (pss_one (ps_ret (pe_mtC (pv 0) T.k_Sender (ok_Sender_newly_known T) HR (by decide) (pa_q (pe_comp (N := (["step", "self"] : List Str)) (nv := 1) (ix := [0]) rfl (cs_of (by kernel_rfl)) (pi_seqK K rfl (pv 1)) (fun _ _ _ _ _ => (pg_name (i := 0) (show ((["step", "self"] : List Str)).Nodup by decide) rfl (Or.inl rfl))) (fun _ _ _ _ _ => (pts_one (pt_cmpR op_lt (pe_op (op_addK K rfl) (pe_fldC (pv 1) T.k_Sender T.n_Sender_base rfl) (pv 0)) (pe_fldC (pv 1) T.k_Sender T.n_Sender_top rfl) (nomark _)))) (fun _ _ _ _ _ => (pe_op (op_addK K rfl) (pe_fldC (pv 1) T.k_Sender T.n_Sender_base rfl) (pv 0)))) pa_nil)))), ?_⟩
   obtain ⟨A, z, hs, hS, ht, hl, hk, q⟩ := h
   exists hS.hx
   refine co_tup (xs := hs.map V.int) (p := fun v => match v with | .int i => decide (z.b + i < z.t) | _ => false) (f := fun v => match v with | .int i => .int (z.b + i) | v => v) (SqT.of ht) (small_ok (by rw [List.length_map]; omega)) ?_ ?_ ?_
   ·intro y hy Q' q'
    obtain ⟨i, _, rfl⟩ := List.mem_map.mp hy
    exists hS.hx
    exact q'
   ·intro y hy _ Q' q'
    obtain ⟨i, _, rfl⟩ := List.mem_map.mp hy
    exists hS.hx
    exact q'
   rw [hld_eq]
   have hl2 := hld_len (z := z) (hs := hs)
   refine ⟨small_ok (by rw [List.length_map]; omega), fun l hl3 => ?_⟩
   have S1 := hS.same (same_upd (o := .lst ((hld z hs).map V.int)) hl3)
   have s1 := same_upd (o := .lst ((hld z hs).map V.int)) hl3
   refine ⟨A, z, _, S1, rfl, hk, by omega, fun p H3 hp fr S3 hl4 => q _ p H3 rfl ?_ (fun b u e a1 a2 a3 a4 a5 a6 => fr b u (s1 b u e) a1 a2 a3 a4 a5 a6) S3 hl4⟩
   exact free_of s1 hp
  ·exact h.elim
theorem ok_Sender_go_again (T : Txt K mg C_Meter C_Ways C_Sender C_Taker)    : MtAt P w K mg base CX0 C_Sender "go_again" 2 ["self", "turn"] (sp_Sender_go_again C_Sender C_Ways C_Meter) := by
 refine T.d_Sender_go_again.fn sc_Sender_go_again bd_Sender_go_again (fun vs H Q E h => ?_) fun f cdv A outer s H vs Q E HR h => ?_
 ·unfold sp_Sender_go_again at h; split at h <;> first | rfl | exact h.elim
 ·unfold sp_Sender_go_again at h
  split at h
  ·rename_i x n
   refine ⟨_, (pss_cons (ps_exprQ (pe_mtC (pv 0) T.k_Sender (ok_Sender_set_clock T) HR (by decide) (pa_q (pv 1) pa_nil)))
 (pss_cons (ps_fldC (pv 0) pe_bl T.k_Sender T.n_Sender_base_hurried)
 (pss_cons (ps_dpI HR.units (pe_fldC (pv 0) T.k_Sender T.n_Sender_gone_again rfl) (pe_fldC (pv 0) T.k_Sender T.n_Sender_base rfl) pe_bl)
 (pss_one (ps_ret (pe_tup (pa_q pe_str (pa_q (pe_fldC (pv 0) T.k_Sender T.n_Sender_base rfl) pa_nil)))))))), ?_⟩
   obtain ⟨A, z, hS, hl, q⟩ := h
   exists hS.hx
   refine ⟨A, z, hS, fun H1 hB S1 => ?_⟩
   have nax : A.pa ≠ x := ne_of S1.ha S1.hx (by simp)
   exists S1.hx, S1.ha, upd_ne nax, upd_ne nax.symm
   refine ⟨by rw [sizeLine_eq]; omega, fun p hp => ?_⟩
   have S2 := S1.put z.b z.t z.e (.int (n + z.w)) true
   have S3 := S2.rowA (putK z.Ag (ik z.b) (.bl true))
   have f3 : Fr7 x A H (upd (upd H1 x (.ins C_Sender A.dx (fl_Sender (.int z.R) (.ref A.pw) (.ref A.pm) (.ref A.pt) (.int z.b) (.int z.t) (.int z.e) (.int (n + z.w)) (.bl true) (.ref A.pk) (.ref A.pf) (.ref A.pa)))) A.pa (.dK (putK z.Ag (ik z.b) (.bl true)))) := fun b u e a1 a2 a3 a4 a5 a6 a7 => by rw [upd_ne a7, upd_ne a1]; exact hB b u e a1
   exact q p _ (f3.none S3 hp) (fun b u e a1 a2 a3 a4 a5 a6 a7 => upd_old (f3 b u e a1 a2 a3 a4 a5 a6 a7) hp) (S3.same (same_upd hp)) upd_same
  ·exact h.elim
theorem ok_Sender_clock_is_out (T : Txt K mg C_Meter C_Ways C_Sender C_Taker)    : MtAt P w K mg base CX0 C_Sender "clock_is_out" 1 ["self", "turn"] (sp_Sender_clock_is_out C_Sender C_Ways C_Meter) := by
 refine T.d_Sender_clock_is_out.fn sc_Sender_clock_is_out bd_Sender_clock_is_out (fun vs H Q E h => ?_) fun f cdv A outer s H vs Q E HR h => ?_
 ·unfold sp_Sender_clock_is_out at h; split at h <;> first | rfl | exact h.elim
 ·unfold sp_Sender_clock_is_out at h
  split at h
  ·rename_i x n
   refine ⟨_, (pss_one (ps_ret (pe_and (pe_cmpR op_notNA (pe_fldC (pv 0) T.k_Sender T.n_Sender_clock rfl) pe_non (nomark _)) (pe_one (pe_cmpR op_ge (pv 1) (pe_fldC (pv 0) T.k_Sender T.n_Sender_clock rfl) (nomark _)))))), ?_⟩
   obtain ⟨A, z, r, hS, hc, q⟩ := h
   have hx := hS.hx
   rcases hc with ⟨hc, rfl⟩ | ⟨c, hc, rfl⟩
   ·rw [hc] at hx
    exists hx
    exact q
   ·rw [hc] at hx
    exists hx
    exact q
  ·exact h.elim
theorem ok_Sender_go_new (T : Txt K mg C_Meter C_Ways C_Sender C_Taker)    : MtAt P w K mg base CX0 C_Sender "go_new" 2 ["self", "turn"] (sp_Sender_go_new C_Sender C_Ways C_Meter) := by
 refine T.d_Sender_go_new.fn sc_Sender_go_new bd_Sender_go_new (fun vs H Q E h => ?_) fun f cdv A outer s H vs Q E HR h => ?_
 ·unfold sp_Sender_go_new at h; split at h <;> first | rfl | exact h.elim
 ·unfold sp_Sender_go_new at h
  split at h
  ·rename_i x n
   refine ⟨_, (pss_cons (ps_setQ (i := 2) sc_Sender_go_new.nd rfl (Or.inl rfl) (pe_fldC (pv 0) T.k_Sender T.n_Sender_top rfl))
 (pss_mid (ps_if (pt_cmpR (op_eqK K rfl HR.units) (pe_fldC (pv 0) T.k_Sender T.n_Sender_base rfl) (pe_fldC (pv 0) T.k_Sender T.n_Sender_top rfl) (nomark _)) (pss_one (ps_exprQ (pe_mtC (pv 0) T.k_Sender (ok_Sender_set_clock T) HR (by decide) (pa_q (pv 1) pa_nil)))) pss_nil)
 (pss_cons (ps_dpI HR.units (pe_fldC (pv 0) T.k_Sender T.n_Sender_first_turns rfl) (pv 2) (pv 1))
 (pss_cons (ps_augC (pv 0) pe_int T.k_Sender T.n_Sender_top iop_add)
 (pss_one (ps_ret (pe_tup (pa_q pe_str (pa_q (pv 2) pa_nil))))))))), ?_⟩
   obtain ⟨A, z, hS, hl, q⟩ := h
   exists hS.hx
   refine ⟨fun σ' H' => But x H H' ∧ SdAt C_Sender C_Ways C_Meter H' x A { z with clk := if z.b = z.t then .int (n + z.w) else z.clk } ∧ σ' = [some (.ref x), some (.int n), some (.int z.t)], ?_, ?_⟩
   ·exists hS.hx
    by_cases c : z.b = z.t
    ·rw [if_pos c, if_pos c]
     exact ⟨A, z, hS, fun H' hB S' => ⟨hB, S'⟩⟩
    ·rw [if_neg c, if_neg c]
     exact ⟨But.refl, hS⟩
   rintro σ' H1 ⟨hB, S1, rfl⟩
   generalize (if z.b = z.t then V.int (n + z.w) else z.clk) = ck at *
   have nfx : A.pf ≠ x := ne_of hS.hf hS.hx (by simp)
   exists S1.hx, S1.hf, upd_ne nfx.symm
   refine ⟨by rw [sizeLine_eq]; omega, fun p hp => ?_⟩
   have S2 := S1.row (u := .dK (putK z.Fi (ik z.t) (.int n))) S1.hf z.T z.Kn (putK z.Fi (ik z.t) (.int n)) (by simp) (by simp) (by rw [upd_ne (ne_of S1.ht S1.hf (by simp))]; exact S1.ht) (by rw [upd_ne S1.kf]; exact S1.hk) upd_same S1.fa
   have S3 := S2.put z.b (z.t + 1) z.e ck z.hur
   have fr : Fr6 x A H (upd (upd H1 A.pf (.dK (putK z.Fi (ik z.t) (.int n)))) x (.ins C_Sender A.dx (fl_Sender (.int z.R) (.ref A.pw) (.ref A.pm) (.ref A.pt) (.int z.b) (.int (z.t + 1)) (.int z.e) ck (.bl z.hur) (.ref A.pk) (.ref A.pf) (.ref A.pa)))) := fun b u e a1 a2 a3 a4 a5 a6 => by rw [upd_ne a1, upd_ne a6]; exact hB b u e a1
   exact q p _ (fr.none S3 hp) (fun b u e a1 a2 a3 a4 a5 a6 => upd_old (fr b u e a1 a2 a3 a4 a5 a6) hp) (S3.same (same_upd hp)) upd_same
  ·exact h.elim
theorem ok_Sender_ask_for_room (T : Txt K mg C_Meter C_Ways C_Sender C_Taker)    : MtAt P w K mg base CX0 C_Sender "ask_for_room" 3 ["self", "turn"] (sp_Sender_ask_for_room C_Sender C_Ways C_Meter) := by
 refine T.d_Sender_ask_for_room.fn sc_Sender_ask_for_room bd_Sender_ask_for_room (fun vs H Q E h => ?_) fun f cdv A outer s H vs Q E HR h => ?_
 ·unfold sp_Sender_ask_for_room at h; split at h <;> first | rfl | exact h.elim
 ·unfold sp_Sender_ask_for_room at h
  split at h
  ·rename_i x n
   refine ⟨_, (pss_cons (ps_if (pt_cmpR op_isNA (pe_fldC (pv 0) T.k_Sender T.n_Sender_clock rfl) pe_non (nomark _)) (pss_cons (ps_exprQ (pe_mtC (pv 0) T.k_Sender (ok_Sender_set_clock T) HR (by decide) (pa_q (pv 1) pa_nil)))
 (pss_hold (pss_one (ps_ret pe_non)))) pss_nil)
 (pss_hold (pss_cons (ps_if (pt_not (pt_q (pe_mtC (pv 0) T.k_Sender (ok_Sender_clock_is_out T) HR (by decide) (pa_q (pv 1) pa_nil)))) (pss_one (ps_ret pe_non)) pss_nil)
 (pss_hold (pss_cons (ps_exprQ (pe_mtC0 (pe_fldC (pv 0) T.k_Sender T.n_Sender_ways rfl) T.k_Ways (ok_Ways_ran_out T) HR (by decide)))
 (pss_hold (pss_cons (ps_exprQ (pe_mtC (pv 0) T.k_Sender (ok_Sender_set_clock T) HR (by decide) (pa_q (pv 1) pa_nil)))
 (pss_hold (pss_one (ps_ret (pe_tup (pa_q pe_str (pa_q pe_non pa_nil))))))))))))), ?_⟩
   obtain ⟨A, z, hS, hc, q⟩ := h
   generalize h_u1 : tHold _ = u1
   generalize h_u2 : tHold _ = u2
   exists hS.hx
   by_cases c0 : z.clk = .non
   ·rw [if_pos c0]
    refine ⟨A, z, hS, fun H1 hB S1 => ?_⟩
    rw [← h_u1, tHold]
    walk_at "wps"
    exact q .non H1 _ (fun b u e a1 _ _ _ _ _ _ => hB b u e a1) S1 (.inl ⟨c0, rfl, rfl⟩)
   rw [if_neg c0]
   obtain ⟨i, hi⟩ : ∃ i, z.clk = .int i := hc.resolve_left c0
   rw [← h_u2, tHold]
   generalize h_u3 : tHold _ = u3
   exists hS.hx
   refine ⟨A, z, _, hS, .inr ⟨i, hi, rfl⟩, ?_⟩
   by_cases c1 : i ≤ n
   ·rw [if_neg (by simpa using c1)]
    rw [← h_u3, tHold]
    generalize h_u4 : tHold _ = u4
    obtain ⟨s0, sp0, ew, hw⟩ := hS.ws.ran
    exists hS.hx, ew
    refine ⟨A.dw, z.L, s0, sp0, z.w, rfl, ?_⟩
    have S1 := hS.ways But.upd hw
    have b1 : But A.pw H (upd H A.pw (.ins C_Ways A.dw (fl_Ways (V.int z.L) s0 sp0 (V.int (if z.L < 2 * z.w then z.L else 2 * z.w))))) := But.upd
    generalize upd H A.pw (.ins C_Ways A.dw (fl_Ways (V.int z.L) s0 sp0 (V.int (if z.L < 2 * z.w then z.L else 2 * z.w)))) = H1 at *
    rw [← h_u4, tHold]
    generalize h_u5 : tHold _ = u5
    exists S1.hx
    refine ⟨A, _, S1, fun H2 hB S2 => ?_⟩
    rw [← h_u5, tHold]
    walk_at "wps"
    intro p hp
    have f2 : Fr7 x A H H2 := fun b u e a1 a2 _ _ _ _ _ => hB b u (b1 b u e a2) a1
    exact q (.ref p) _ _ (fun b u e a1 a2 a3 a4 a5 a6 a7 => upd_old (f2 b u e a1 a2 a3 a4 a5 a6 a7) hp) (S2.same (same_upd hp)) (.inr (.inr ⟨i, hi, c1, rfl, p, rfl, f2.none S2 hp, upd_same⟩))
   ·rw [if_pos (by simpa using c1)]
    exact q .non H z (fun b u e _ _ _ _ _ _ _ => e) hS (.inr (.inl ⟨i, hi, by omega, rfl, rfl⟩))
  ·exact h.elim
theorem ok_Sender_go (T : Txt K mg C_Meter C_Ways C_Sender C_Taker)    : MtAt P w K mg base CX0 C_Sender "go" 4 ["self", "turn"] (sp_Sender_go C_Sender C_Ways C_Meter) := by
 refine T.d_Sender_go.fn sc_Sender_go bd_Sender_go (fun vs H Q E h => ?_) fun f cdv A outer s H vs Q E HR h => ?_
 ·unfold sp_Sender_go at h; split at h <;> first | rfl | exact h.elim
 ·unfold sp_Sender_go at h
  split at h
  ·rename_i x n
   refine ⟨_, (pss_cons (ps_if (PW.pt (pw_and (pt_cmpR op_lt (pe_fldC (pv 0) T.k_Sender T.n_Sender_base rfl) (pe_fldC (pv 0) T.k_Sender T.n_Sender_top rfl) (nomark _)) (pw_and1 (pt_q (pe_mtC (pv 0) T.k_Sender (ok_Sender_clock_is_out T) HR (by decide) (pa_q (pv 1) pa_nil)))))) (pss_cons (ps_exprQ (pe_mtC0 (pe_fldC (pv 0) T.k_Sender T.n_Sender_ways rfl) T.k_Ways (ok_Ways_ran_out T) HR (by decide)))
 (pss_hold (pss_cons (ps_exprQ (pe_mtC0 (pe_fldC (pv 0) T.k_Sender T.n_Sender_meter rfl) T.k_Meter (ok_Meter_ran_out T) HR (by decide)))
 (pss_hold (pss_one (ps_ret (pe_mtC (pv 0) T.k_Sender (ok_Sender_go_again T) HR (by decide) (pa_q (pv 1) pa_nil)))))))) pss_nil)
 (pss_hold (pss_cons (ps_if (pt_q (pe_mtC0 (pv 0) T.k_Sender (ok_Sender_hurry_is_due T) HR (by decide))) (pss_cons (ps_exprQ (pe_mtC0 (pe_fldC (pv 0) T.k_Sender T.n_Sender_meter rfl) T.k_Meter (ok_Meter_hurried T) HR (by decide)))
 (pss_hold (pss_one (ps_ret (pe_mtC (pv 0) T.k_Sender (ok_Sender_go_again T) HR (by decide) (pa_q (pv 1) pa_nil)))))) pss_nil)
 (pss_hold (pss_cons (ps_if (pt_q (pe_mtC0 (pv 0) T.k_Sender (ok_Sender_new_may_go T) HR (by decide))) (pss_one (ps_ret (pe_mtC (pv 0) T.k_Sender (ok_Sender_go_new T) HR (by decide) (pa_q (pv 1) pa_nil)))) pss_nil)
 (pss_hold (pss_cons (ps_if (PW.pt (pw_and (pt_q (pe_mtC0 (pv 0) T.k_Sender (ok_Sender_thing_waits T) HR (by decide))) (pw_and1 (pt_cmpR (op_eqK K rfl HR.units) (pe_fldC (pv 0) T.k_Sender T.n_Sender_base rfl) (pe_fldC (pv 0) T.k_Sender T.n_Sender_top rfl) (nomark _))))) (pss_one (ps_ret (pe_mtC (pv 0) T.k_Sender (ok_Sender_ask_for_room T) HR (by decide) (pa_q (pv 1) pa_nil)))) pss_nil)
 (pss_one (ps_ret pe_non))))))))), ?_⟩
   obtain ⟨A, z, hS, hb, hc, hAg, hFi, q⟩ := h
   generalize h_ua : tHold _ = ua
   generalize h_u1 : tHold _ = u1
   obtain ⟨s0, sp0, ew, hw⟩ := hS.ws.ran
   exists hS.hx, ew
   have rest1 : (z.b < z.t → outC z.clk n = false) → u1 { nx := fun _ H' => Q .non H', rt := Q } [some (.ref x), some (.int n)] H := by
    intro hno
    rw [← h_u1, tHold]
    generalize h_ub : tHold _ = ub
    generalize h_u2 : tHold _ = u2
    exists hS.hx
    refine ⟨A, z, hS, hb, fun H1 sm1 => ?_⟩
    have S1 := hS.same sm1
    obtain ⟨em, hi⟩ := S1.ms
    have ehd : hryD z = (decide (z.b < z.t) && !z.hur && decide ((2 : Int) ≤ kab z)) := rfl
    rw [← ehd]
    cases hh : hryD z
    ·rw [if_neg (by decide)]
     rw [← h_u2, tHold]
     generalize h_u3 : tHold _ = u3
     exists S1.hx
     refine ⟨A, z, S1, hb, fun H2 sm2 => ?_⟩
     have S2 := S1.same sm2
     have f2 : Fr7 x A H H2 := fun b u e _ _ _ _ _ _ _ => sm2 _ _ (sm1 _ _ e)
     have non2 : ∀ p, H2 p = none → H p = none := fun p hp => by
      cases e : H p with
      | none => rfl
      | some u => rw [sm2 _ _ (sm1 _ _ e)] at hp; cases hp
     have enm : newM z = (decide (z.t < z.T.length) && decide (z.t < z.e) && decide (z.t - z.b - kab z < z.wi)) := rfl
     rw [← enm]
     cases hn : newM z
     ·rw [if_neg (by decide)]
      rw [← h_u3, tHold]
      exists S2.hx
      refine ⟨A, z, S2, ?_⟩
      have qn : ¬ (z.t < z.T.length ∧ z.b = z.t) → Q .non H2 := fun hno2 => q .non H2 z f2 S2 (.inr ⟨hno, .inr ⟨hh, .inr ⟨hn, .inr ⟨hno2, rfl, rfl⟩⟩⟩⟩)
      by_cases c1 : z.t < z.T.length
      ·by_cases c2 : z.b = z.t
       ·rw [if_pos c1, if_pos c2]
        exact ⟨A, z, S2, hc, fun v H' z' fr S' g => q v H' z' (f2.trans fr) S' (.inr ⟨hno, .inr ⟨hh, .inr ⟨hn, .inl ⟨c1, c2, g.fr non2⟩⟩⟩⟩)⟩
       ·rw [if_pos c1, if_neg c2]
        exact qn fun c => c2 c.2
      ·rw [if_neg c1]
       exact qn fun c => c1 c.1
     ·rw [if_pos rfl]
      exists S2.hx
      refine ⟨A, z, S2, hFi, fun p H3 hp fr S3 hp3 => ?_⟩
      exact q (.ref p) H3 _ (f2.trans fr.seven) S3 (.inr ⟨hno, .inr ⟨hh, .inl ⟨hn, rfl, p, rfl, non2 p hp, hp3⟩⟩⟩)
    ·rw [if_pos rfl]
     exists S1.hx, em
     refine ⟨A.dm, z.mo, z.wi, z.kn, z.co, rfl, ?_⟩
     have hh1 : 1 ≤ MeterM.hf z.wi ∧ MeterM.hf z.wi ≤ z.mo := MeterM.hf_in hi.1 hi.2.1
     have S2 := S1.meter (H' := upd H1 A.pm (.ins C_Meter A.dm (fl_Meter (.int z.mo) (.int (MeterM.hf z.wi)) (.int (MeterM.hf z.wi)) (.int 0)))) But.upd ⟨upd_same, ⟨hh1.1, hh1.2, Int.le_refl _, by show (0 : Int) < MeterM.hf z.wi; omega⟩⟩
     have f2 : Fr7 x A H (upd H1 A.pm (.ins C_Meter A.dm (fl_Meter (.int z.mo) (.int (MeterM.hf z.wi)) (.int (MeterM.hf z.wi)) (.int 0)))) := fun b u e _ _ a3 _ _ _ _ => by rw [upd_ne a3]; exact sm1 b u e
     generalize upd H1 A.pm (.ins C_Meter A.dm (fl_Meter (.int z.mo) (.int (MeterM.hf z.wi)) (.int (MeterM.hf z.wi)) (.int 0))) = H2 at *
     rw [← h_ub, tHold]
     exists S2.hx
     refine ⟨A, _, S2, hAg, fun p H3 hp fr S3 hp3 => ?_⟩
     exact q (.ref p) H3 _ (f2.trans fr) S3 (.inr ⟨hno, .inl ⟨hh, rfl, p, rfl, f2.none S2 hp, hp3⟩⟩)
   by_cases c0 : z.b < z.t
   ·rw [if_pos c0]
    have hr : Clk z.clk n (outC z.clk n) := by
     rcases hc with h | ⟨i, h⟩
     ·exact .inl ⟨h, by rw [h]; rfl⟩
     ·exact .inr ⟨i, h, by rw [h]; rfl⟩
    refine ⟨A, z, _, hS, hr, ?_⟩
    cases ho : outC z.clk n
    ·rw [if_neg (by decide)]
     exact rest1 fun _ => ho
    ·rw [if_pos rfl]
     refine ⟨A.dw, z.L, s0, sp0, z.w, rfl, ?_⟩
     have S1 := hS.ways But.upd hw
     have b1 : But A.pw H (upd H A.pw (.ins C_Ways A.dw (fl_Ways (V.int z.L) s0 sp0 (V.int (if z.L < 2 * z.w then z.L else 2 * z.w))))) := But.upd
     generalize upd H A.pw (.ins C_Ways A.dw (fl_Ways (V.int z.L) s0 sp0 (V.int (if z.L < 2 * z.w then z.L else 2 * z.w)))) = H1 at *
     obtain ⟨em, hi⟩ := S1.ms
     rw [← h_ua, tHold]
     generalize h_ud : tHold _ = ud
     exists S1.hx, em
     refine ⟨A.dm, z.mo, z.wi, z.kn, z.co, rfl, ?_⟩
     have S2 := S1.meter (H' := upd H1 A.pm (.ins C_Meter A.dm (fl_Meter (.int z.mo) (.int 1) (.int (MeterM.hf z.wi)) (.int 0)))) But.upd ⟨upd_same, ⟨Int.le_refl _, Int.le_trans hi.1 hi.2.1, Int.le_refl _, by show (0 : Int) < 1; omega⟩⟩
     have f2 : Fr7 x A H (upd H1 A.pm (.ins C_Meter A.dm (fl_Meter (.int z.mo) (.int 1) (.int (MeterM.hf z.wi)) (.int 0)))) := fun b u e _ a2 a3 _ _ _ _ => by rw [upd_ne a3]; exact b1 b u e a2
     generalize upd H1 A.pm (.ins C_Meter A.dm (fl_Meter (.int z.mo) (.int 1) (.int (MeterM.hf z.wi)) (.int 0))) = H2 at *
     rw [← h_ud, tHold]
     exists S2.hx
     refine ⟨A, _, S2, hAg, fun p H3 hp fr S3 hp3 => ?_⟩
     exact q (.ref p) H3 _ (f2.trans fr) S3 (.inl ⟨c0, ho, rfl, p, rfl, f2.none S2 hp, hp3⟩)
   ·rw [if_neg c0]
    exact rest1 fun c => absurd c c0
  ·exact h.elim
theorem ok_Sender_heard (T : Txt K mg C_Meter C_Ways C_Sender C_Taker)    : MtAt P w K mg base CX0 C_Sender "heard" 4 ["self", "number", "room", "held", "turn"] (sp_Sender_heard C_Sender C_Ways C_Meter) := by
 refine T.d_Sender_heard.fn sc_Sender_heard bd_Sender_heard (fun vs H Q E h => ?_) fun f cdv A outer s H vs Q E HR h => ?_
 ·unfold sp_Sender_heard at h; split at h <;> first | rfl | exact h.elim
 ·unfold sp_Sender_heard at h
  split at h
  ·rename_i x nu rm hd tn
   refine ⟨_, (pss_cons (ps_setQ (i := 5) sc_Sender_heard.nd rfl (Or.inl rfl) (pe_fnQ (ok_ahead T) HR (by decide) rfl (pa_q (pe_fldC (pv 0) T.k_Sender T.n_Sender_ring rfl) (pa_q (pe_fldC (pv 0) T.k_Sender T.n_Sender_base rfl) (pa_q (pv 1) pa_nil)))))
 (pss_hold (pss_cons (ps_if (pt_cmpR op_gt (pv 5) (pe_op op_sub (pe_fldC (pv 0) T.k_Sender T.n_Sender_top rfl) (pe_fldC (pv 0) T.k_Sender T.n_Sender_base rfl)) (nomark _)) (pss_one (ps_ret (pe_lst pa_nil))) pss_nil)
 (pss_hold (pss_cons (ps_setQ (i := 6) sc_Sender_heard.nd rfl (Or.inl rfl) (pe_op (op_addK K rfl) (pe_mtC (pv 0) T.k_Sender (ok_Sender_grow_base T) HR (by decide) (pa_q (pv 5) pa_nil)) (pe_mtC (pv 0) T.k_Sender (ok_Sender_note_held T) HR (by decide) (pa_q (pv 3) pa_nil))))
 (pss_hold (pss_cons (ps_fldC (pv 0) (pe_callBQ (call_maxA rfl) (by rfl) T.b_max bt_max (pa_q (pe_fldC (pv 0) T.k_Sender T.n_Sender_edge rfl) (pa_q (pe_op (op_addK K rfl) (pe_fldC (pv 0) T.k_Sender T.n_Sender_base rfl) (pv 2)) pa_nil))) T.k_Sender T.n_Sender_edge)
 (pss_hold (pss_cons (ps_for PassesOwn.never rfl (pi_seqK K rfl (pv 6)) (pg_name (i := 7) sc_Sender_heard.nd rfl (Or.inl rfl)) (pss_one (ps_if (pt_cmp (pc_dNI HR.units (pv 7) (pe_fldC (pv 0) T.k_Sender T.n_Sender_gone_again rfl)) (nomarkQ rfl)) (pss_one (ps_exprQ (pe_mtC (pe_fldC (pv 0) T.k_Sender T.n_Sender_ways rfl) T.k_Ways (ok_Ways_measured T) HR (by decide) (pa_q (pe_op op_sub (pv 4) (pe_dgI HR.units (pe_fldC (pv 0) T.k_Sender T.n_Sender_first_turns rfl) (pv 7) (fun _ _ => rfl))) pa_nil)))) pss_nil)))
 (pss_hold (pss_cons (ps_exprQ (pe_mtC (pe_fldC (pv 0) T.k_Sender T.n_Sender_meter rfl) T.k_Meter (ok_Meter_known T) HR (by decide) (pa_q (pe_callBQ (call_lenB K rfl) (by rfl) T.b_len bt_len (pa_q (pv 6) pa_nil)) pa_nil)))
 (pss_hold (pss_cons (ps_if (pt_cmpR op_gt (pv 5) pe_int (nomark _)) (pss_cons (ps_fldC (pv 0) (pe_ifExp (pt_cmpR op_lt (pe_fldC (pv 0) T.k_Sender T.n_Sender_base rfl) (pe_fldC (pv 0) T.k_Sender T.n_Sender_top rfl) (nomark _)) (pe_op (op_addK K rfl) (pv 4) (pe_fldC (pe_fldC (pv 0) T.k_Sender T.n_Sender_ways rfl) T.k_Ways T.n_Ways_wait rfl)) pe_non) T.k_Sender T.n_Sender_clock)
 (pss_one (ps_fldC (pv 0) pe_bl T.k_Sender T.n_Sender_base_hurried))) pss_nil)
 (pss_one (ps_ret (pv 6)))))))))))))))), ?_⟩
   obtain ⟨A, z, hs, hS, hb, hR, hhd, hsl, hnd, hs0, hT, hkl, ht, hk, q⟩ := h
   generalize h_u0 : tHold _ = u0
   exists hS.hx
   refine ⟨hR, ?_⟩
   rw [← h_u0, tHold]
   generalize h_u1 : tHold _ = u1
   exists hS.hx
   have ef : (nu - z.b) % z.R = far' z nu := rfl
   rw [ef]
   have far0 : 0 ≤ far' z nu := Int.emod_nonneg _ (by omega)
   by_cases c0 : z.t - z.b < far' z nu
   ·rw [if_pos c0]
    intro p hp
    exact q p _ hp (fun b u e _ _ _ _ _ _ _ => upd_old e hp) (.inl ⟨c0, same_upd hp, upd_same⟩)
   rw [if_neg c0]
   have b0 := hb.b0
   have bt := hb.bt
   rw [← h_u1, tHold]
   generalize h_u2 : tHold _ = u2
   exists hS.hx
   refine ⟨A, z, hS, hb, ⟨far0, by omega⟩, by omega, fun fs p H1 efs hp fr S1 l1 => ?_⟩
   obtain rfl : fs = f1' z nu := efs
   replace S1 : SdAt C_Sender C_Ways C_Meter H1 x A (z1' z nu) := S1
   have hd1 := fr.tup hS hhd
   have npt : p ≠ A.pt := fun c => by rw [c, hS.ht] at hp; cases hp
   have fl1 : (f1' z nu).length ≤ 390 := by
    have h1 : (f1' z nu).length ≤ (irg z.b (far' z nu).toNat).length := List.length_filter_le _ _
    have h2 : (irg z.b (far' z nu).toNat).length = (far' z nu).toNat := by unfold irg; rw [List.length_map, List.length_range]
    omega
   have kl1 : (z1' z nu).Kn.length ≤ z.Kn.length + (f1' z nu).length := putAll_len
   exists S1.hx
   refine ⟨A, _, hs, S1, hd1, by omega, by omega, fun fs2 p2 H2 efs2 hp2 fr2 S2 l2 => ?_⟩
   obtain rfl : fs2 = f2' z nu hs := efs2
   have l12 := fr2.lst S1 l1 npt
   have fl2 : (f2' z nu hs).length ≤ 100 := by
    have h1 : (f2' z nu hs).length ≤ (hld (z1' z nu) hs).length := List.length_filter_le _ _
    have h2 := hld_len (z := z1' z nu) (hs := hs)
    omega
   refine addA_lists l12 l2 (small_ok (by rw [List.length_map, List.length_map]; omega)) fun p3 hp3 => ?_
   have fr3 : Fr6 x A H H2 := fr.trans fr2
   have hp30 := fr3.none S2 hp3
   have S3 := S2.same (same_upd (o := .lst ((f1' z nu).map V.int ++ (f2' z nu hs).map V.int)) hp3)
   have f3 : Fr6 x A H (upd H2 p3 (.lst ((f1' z nu).map V.int ++ (f2' z nu hs).map V.int))) := fun b u e a1 a2 a3 a4 a5 a6 => upd_old (fr3 b u e a1 a2 a3 a4 a5 a6) hp3
   have l3 : upd H2 p3 (.lst ((f1' z nu).map V.int ++ (f2' z nu hs).map V.int)) p3 = some (.lst ((f1' z nu ++ f2' z nu hs).map V.int)) := by rw [upd_same, List.map_append]
   generalize upd H2 p3 (.lst ((f1' z nu).map V.int ++ (f2' z nu hs).map V.int)) = H3 at *
   rw [← h_u2, tHold]
   generalize h_u3 : tHold _ = u3
   exists S3.hx
   have tN : ((z.t.toNat : Nat) : Int) = z.t := by omega
   have i1 : ∀ a ∈ f1' z nu, knw z.Kn a = false ∧ 0 ≤ a ∧ a < ((z.t.toNat : Nat) : Int) := fun a ha => by
    obtain ⟨m1, m2⟩ := frs_mem ha
    have := irg_mem m1
    exact ⟨m2, by omega, by omega⟩
   have i2 : ∀ a ∈ f2' z nu hs, knw (z1' z nu).Kn a = false ∧ 0 ≤ a ∧ a < ((z.t.toNat : Nat) : Int) := fun a ha => by
    obtain ⟨m1, m2⟩ := frs_mem ha
    obtain ⟨h1, k, hk1, rfl⟩ := hld_mem m1
    have h2 := hs0 k hk1
    have h3 : (z1' z nu).b = z.b + far' z nu := rfl
    have h4 : (z1' z nu).t = z.t := rfl
    exact ⟨m2, by omega, by omega⟩
   have n1 : (f1' z nu).Nodup := List.Pairwise.filter _ irg_nodup
   have n2 : (f2' z nu hs).Nodup := List.Pairwise.filter _ (hld_nodup hnd)
   have c1 := cnt_all n1 i1
   have c2 := cnt_all n2 i2
   have c3 := cnt_le (D := putAll (z1' z nu).Kn (f2' z nu hs)) (t := z.t.toNat)
   have tot : z.k + ((f1' z nu).length + (f2' z nu hs).length) ≤ 390 := by
    have e1 : cnt (z1' z nu).Kn z.t.toNat = cnt (putAll z.Kn (f1' z nu)) z.t.toNat := rfl
    omega
   have hpl : ∀ a ∈ f1' z nu ++ f2' z nu hs, 0 ≤ a ∧ a < z.t := fun a ha => by
    rcases List.mem_append.mp ha with h | h
    ·have := i1 a h; omega
    ·have := i2 a h; omega
   have efl : (f1' z nu ++ f2' z nu hs).length = (f1' z nu).length + (f2' z nu hs).length := List.length_append
   clear c1 c2 c3 i1 i2 n1 n2
   have S4 := S3.put (z1' z nu).b (z1' z nu).t (if (z1' z nu).e < (z1' z nu).b + rm then (z1' z nu).b + rm else (z1' z nu).e) (z1' z nu).clk (z1' z nu).hur
   have n3x : p3 ≠ x := ne_of l3 S3.hx (by simp)
   generalize hE : (if (z1' z nu).e < (z1' z nu).b + rm then (z1' z nu).b + rm else (z1' z nu).e) = e' at *
   have l4 : upd H3 x (HO.ins C_Sender A.dx (fl_Sender (V.int (z1' z nu).R) (V.ref A.pw) (V.ref A.pm) (V.ref A.pt) (V.int (z1' z nu).b) (V.int (z1' z nu).t) (V.int e') (z1' z nu).clk (V.bl (z1' z nu).hur) (V.ref A.pk) (V.ref A.pf) (V.ref A.pa))) p3 = some (.lst ((f1' z nu ++ f2' z nu hs).map V.int)) := by rw [upd_ne n3x]; exact l3
   have f4 : Fr6 x A H (upd H3 x (HO.ins C_Sender A.dx (fl_Sender (V.int (z1' z nu).R) (V.ref A.pw) (V.ref A.pm) (V.ref A.pt) (V.int (z1' z nu).b) (V.int (z1' z nu).t) (V.int e') (z1' z nu).clk (V.bl (z1' z nu).hur) (V.ref A.pk) (V.ref A.pf) (V.ref A.pa)))) := fun b u e a1 a2 a3 a4 a5 a6 => by rw [upd_ne a1]; exact f3 b u e a1 a2 a3 a4 a5 a6
   generalize upd H3 x (HO.ins C_Sender A.dx (fl_Sender (V.int (z1' z nu).R) (V.ref A.pw) (V.ref A.pm) (V.ref A.pt) (V.int (z1' z nu).b) (V.int (z1' z nu).t) (V.int e') (z1' z nu).clk (V.bl (z1' z nu).hur) (V.ref A.pk) (V.ref A.pf) (V.ref A.pa))) = H4 at *
   obtain ⟨z4, ez4⟩ : ∃ z4 : Sd, z4 = ⟨z.R, z.b + far' z nu, z.t, e', z.clk, z.hur, z.T, putAll (z1' z nu).Kn (f2' z nu hs), z.Fi, z.Ag, z.L, z.w, z.k, z.wi, z.g, z.mo, z.kn, z.co⟩ := ⟨_, rfl⟩
   replace S4 : SdAt C_Sender C_Ways C_Meter H4 x A z4 := by rw [ez4]; exact S4
   have e4F : z4.Fi = z.Fi := by rw [ez4]
   have e4k : z4.k = z.k := by rw [ez4]
   have e4A : z4.Ag = z.Ag := by rw [ez4]
   have e4L : z4.L = z.L := by rw [ez4]
   have e4w : z4.w = z.w := by rw [ez4]
   have e4g : z4.g = z.g := by rw [ez4]
   have e4m : z4.mo = z.mo ∧ z4.wi = z.wi ∧ z4.kn = z.kn ∧ z4.co = z.co := by rw [ez4]; exact ⟨rfl, rfl, rfl, rfl⟩
   clear S3 S2 S1 l3 f3 l1 l12 l2
   rw [← h_u3, tHold]
   generalize h_u4 : tHold _ = u4
   walk_at "wps"
   generalize hfs : f1' z nu ++ f2' z nu hs = fs at *
   have kk : ∀ {i : Nat} {c : Int}, fs[i]? = some c → mall z tn (fs.take (i + 1)) = ms1 z tn (mall z tn (fs.take i)) c := fun {i c} hc => by
    rw [List.take_add_one, hc]; exact mall_snoc
   have S40 : SdAt C_Sender C_Ways C_Meter H4 x A { z4 with w := z.w, g := z.g, k := z.k } := by
    have e : ({ z4 with w := z.w, g := z.g, k := z.k } : Sd) = z4 := by rw [ez4]
    rw [e]; exact S4
   refine fo_list (xs := fs.map V.int) (SqL.of l4) (fun i σ H' => ∃ v7, (mall z tn (fs.take i)).2.2 ≤ z.k + i ∧ Fr6 x A H H' ∧ H' p3 = some (.lst (fs.map V.int)) ∧ SdAt C_Sender C_Ways C_Meter H' x A { z4 with w := (mall z tn (fs.take i)).1, g := (mall z tn (fs.take i)).2.1, k := (mall z tn (fs.take i)).2.2 } ∧ σ = [some (.ref x), some (.int nu), some (.int rm), some (.ref hd), some (.int tn), some (.int (far' z nu)), some (.ref p3), v7]) ⟨none, by show z.k ≤ z.k + 0; omega, f4, l4, S40, rfl⟩ (fun i σ H' _ hp => by obtain ⟨_, _, _, hh, _⟩ := hp; exact SqL.of hh) (fun i y σ H5 hy hp => ?_) (fun σ H5 hp => ?_)
   ·obtain ⟨v7, kle, f5, l5, S5, rfl⟩ := hp
    obtain ⟨c, rfl, hci⟩ := map_int_get hy
    have il : i < fs.length := (List.getElem?_eq_some_iff.mp hci).1
    obtain ⟨c0', c1'⟩ := hpl c (List.mem_of_getElem? hci)
    obtain ⟨f, hf, g0, g1⟩ := hT c c0' c1'
    obtain ⟨s0, sp0, ew⟩ := S5.ws.ins
    have hf5 := S5.hf
    have ha5 := S5.ha
    have ff : fstT z c = f := by unfold fstT; rw [hf]
    rw [kk hci]
    generalize mall z tn (fs.take i) = s at *
    exists S5.hx, ha5, hf5, ew
    cases ea : (valV z4.Ag (ik c)).isSome
    ·have e1 : ms1 z tn s c = (mws z.L (mgs s.2.1 (tn - f)), mgs s.2.1 (tn - f), s.2.2 + 1) := by
      unfold ms1 knw
      rw [← e4A, ea, ff]
      rfl
     rw [if_pos rfl, e1]
     refine ⟨_, by rw [e4F]; exact hf, ?_⟩
     walk_at "wps"
     exact WS.meas (E := E0) (Q := fun _ H' => ∃ v7, s.2.2 + 1 ≤ z.k + (i + 1) ∧ Fr6 x A H H' ∧ H' p3 = some (.lst (fs.map V.int)) ∧ SdAt C_Sender C_Ways C_Meter H' x A { z4 with w := mws z.L (mgs s.2.1 (tn - f)), g := mgs s.2.1 (tn - f), k := s.2.2 + 1 } ∧ ([some (.ref x), some (.int nu), some (.int rm), some (.ref hd), some (.int tn), some (.int (far' z nu)), some (.ref p3), some (.int c)] : St) = [some (.ref x), some (.int nu), some (.int rm), some (.ref hd), some (.int tn), some (.int (far' z nu)), some (.ref p3), v7]) S5.ws (by show s.2.2 ≤ 400; omega) g0 g1 (fun H6 hB hw => ⟨_, by omega, fun b u e a1 a2 a3 a4 a5 a6 => hB _ _ (f5 b u e a1 a2 a3 a4 a5 a6) a2, hB _ _ l5 (S5.nw l5 (by simp)).2.1, by rw [← e4L]; exact S5.ways hB hw, rfl⟩)
    ·have e1 : ms1 z tn s c = s := by
      unfold ms1 knw
      rw [← e4A, ea]
      rfl
     rw [if_neg (by decide), e1]
     exact ⟨_, by omega, f5, l5, S5, rfl⟩
   obtain ⟨v7, kle, f5, l5, S5, rfl⟩ := hp
   rw [List.length_map, List.take_length] at S5
   obtain ⟨em, hi⟩ := S5.ms
   rw [← h_u4, tHold]
   generalize h_u5 : tHold _ = u5
   exists S5.hx, l5, em
   refine ⟨by rw [List.length_map]; omega, A.dm, z4.mo, z4.wi, z4.kn, z4.co, rfl, ?_⟩
   have elen : ((fs.map V.int).length : Int).toNat = fs.length := by rw [List.length_map]; omega
   rw [elen]
   have hst0 : MeterM.kn z4.mo z4.kn fs.length (z4.wi, z4.co) = MeterM.kn z.mo z.kn fs.length (z.wi, z.co) := by rw [e4m.1, e4m.2.1, e4m.2.2.1, e4m.2.2.2]
   rw [hst0]
   generalize hst : MeterM.kn z.mo z.kn fs.length (z.wi, z.co) = st at *
   have hin : MeterM.Inb z4.mo st := by rw [← hst0]; exact MeterM.inb _ _ hi
   have S6 := S5.meter (H' := upd H5 A.pm (.ins C_Meter A.dm (fl_Meter (.int z4.mo) (.int st.1) (.int z4.kn) (.int st.2)))) But.upd ⟨upd_same, hin⟩
   have l6 : upd H5 A.pm (.ins C_Meter A.dm (fl_Meter (.int z4.mo) (.int st.1) (.int z4.kn) (.int st.2))) p3 = some (.lst (fs.map V.int)) := by rw [upd_ne (S5.nw l5 (by simp)).2.2]; exact l5
   have f6 : Fr6 x A H (upd H5 A.pm (.ins C_Meter A.dm (fl_Meter (.int z4.mo) (.int st.1) (.int z4.kn) (.int st.2)))) := fun b u e a1 a2 a3 a4 a5 a6 => by rw [upd_ne a3]; exact f5 b u e a1 a2 a3 a4 a5 a6
   generalize upd H5 A.pm (.ins C_Meter A.dm (fl_Meter (.int z4.mo) (.int st.1) (.int z4.kn) (.int st.2))) = H6 at *
   clear S5 S4 l5 f5 em
   obtain ⟨s0, sp0, ew⟩ := S6.ws.ins
   have hE' : e' = if z.e < z.b + far' z nu + rm then z.b + far' z nu + rm else z.e := hE.symm
   rw [← h_u5, tHold]
   exists S6.hx, ew
   subst ez4
   have ehr : fsh z nu hs = fs := hfs
   by_cases d0 : 0 < far' z nu
   ·rw [if_pos d0]
    have fin : ∀ c : V, c = (if z.b + far' z nu < z.t then .int (tn + (mall z tn fs).1) else .non) → Q (.ref p3) (upd H6 x (HO.ins C_Sender A.dx (fl_Sender (V.int z.R) (V.ref A.pw) (V.ref A.pm) (V.ref A.pt) (V.int (z.b + far' z nu)) (V.int z.t) (V.int e') c (V.bl false) (V.ref A.pk) (V.ref A.pf) (V.ref A.pa)))) := fun c hcu => by
     have S7 := S6.put (z.b + far' z nu) z.t e' c false
     refine q p3 _ hp30 (fun b u e a1 a2 a3 a4 a5 a6 _ => by rw [upd_ne a1]; exact f6 b u e a1 a2 a3 a4 a5 a6) (.inr ⟨by omega, ?_, by rw [upd_ne n3x, ehr]; exact l6⟩)
     unfold hrd
     rw [ehr, if_pos d0, if_pos d0, hst, ← hcu, ← hE']
     exact S7
    by_cases d1 : z.b + far' z nu < z.t
    ·rw [if_pos d1] at fin ⊢
     exact fin _ rfl
    ·rw [if_neg d1] at fin ⊢
     exact fin _ rfl
   ·rw [if_neg d0]
    refine q p3 _ hp30 f6.seven (.inr ⟨by omega, ?_, by rw [ehr]; exact l6⟩)
    unfold hrd
    rw [ehr, if_neg d0, if_neg d0, hst, ← hE']
    exact S6
  ·exact h.elim
theorem ok_Sender___init__ (T : Txt K mg C_Meter C_Ways C_Sender C_Taker)    : MtAt P w K mg base CX0 C_Sender "__init__" 3 ["self", "ring", "first", "longest", "most"] (sp_Sender___init__ C_Sender C_Ways C_Meter) := by
 refine T.d_Sender___init__.fn sc_Sender___init__ bd_Sender___init__ (fun vs H Q E h => ?_) fun f cdv A outer s H vs Q E HR h => ?_
 ·unfold sp_Sender___init__ at h; split at h <;> first | rfl | exact h.elim
 ·unfold sp_Sender___init__ at h
  split at h
  ·rename_i x r f l m
   refine ⟨_, (pss_cons (ps_fldC (pv 0) (pv 1) T.k_Sender T.n_Sender_ring)
 (pss_cons (ps_fldC (pv 0) (pe_mkC T.k_Ways (ok_Ways___init__ T) HR (by decide) rfl (pa_q (pv 2) (pa_q (pv 3) pa_nil))) T.k_Sender T.n_Sender_ways)
 (pss_hold (pss_cons (ps_fldC (pv 0) (pe_mkC T.k_Meter (ok_Meter___init__ T) HR (by decide) rfl (pa_q (pv 4) pa_nil)) T.k_Sender T.n_Sender_meter)
 (pss_hold (pss_cons (ps_fldC (pv 0) (pe_lst pa_nil) T.k_Sender T.n_Sender_things)
 (pss_cons (ps_fldC (pv 0) pe_int T.k_Sender T.n_Sender_base)
 (pss_cons (ps_fldC (pv 0) pe_int T.k_Sender T.n_Sender_top)
 (pss_cons (ps_fldC (pv 0) pe_int T.k_Sender T.n_Sender_edge)
 (pss_cons (ps_fldC (pv 0) pe_non T.k_Sender T.n_Sender_clock)
 (pss_cons (ps_fldC (pv 0) pe_bl T.k_Sender T.n_Sender_base_hurried)
 (pss_hold (pss_cons (ps_fldC (pv 0) pe_dnewK T.k_Sender T.n_Sender_known_places)
 (pss_hold (pss_cons (ps_fldC (pv 0) pe_dnewK T.k_Sender T.n_Sender_first_turns)
 (pss_hold (pss_one (ps_fldC (pv 0) pe_dnewK T.k_Sender T.n_Sender_gone_again)))))))))))))))))), ?_⟩
   obtain ⟨hf, dx, hx, q⟩ := h
   generalize h_u1 : tHold _ = u1
   exists hx
   intro pw dw npw ndw new
   refine ⟨dw, rfl, ?_⟩
   have nwx : x ≠ pw := (fresh_ne npw).symm
   have ndx : x ≠ dw := (fresh_ne ndw).symm
   exists upd_ne nwx, upd_ne ndx
   obtain ⟨H1, e1⟩ : ∃ H1, H1 = upd (upd (upd (upd H x (.ins C_Sender dx (fl_Sender_1 (.int r)))) dw (.own pw)) pw (.ins C_Ways dw (fl_Ways (.int l) .non .non (.int f)))) x (.ins C_Sender dx (fl_Sender_2 (.int r) (.ref pw))) := ⟨_, rfl⟩
   rw [← e1]
   rw [upd_ne nwx.symm] at npw
   rw [upd_ne ndx.symm] at ndw
   have hx1 : H1 x = some (.ins C_Sender dx (fl_Sender_2 (.int r) (.ref pw))) := by rw [e1]; exact upd_same
   have w1 : H1 pw = some (.ins C_Ways dw (fl_Ways (.int l) .non .non (.int f))) := by rw [e1, upd_ne nwx.symm]; exact upd_same
   have b1 : But x H H1 := fun b o e n => by rw [e1, upd_ne n, upd_ne (ne_of_none e npw), upd_ne (ne_of_none e ndw), upd_ne n]; exact e
   clear e1
   rw [← h_u1, tHold]
   generalize h_u2 : tHold _ = u2
   walk_at "wps"
   intro pm dm npm ndm nem
   refine ⟨dm, rfl, ?_⟩
   have nmx : x ≠ pm := ne_of_none hx1 npm
   have ndx2 : x ≠ dm := ne_of_none hx1 ndm
   exists upd_ne nmx, upd_ne ndx2, hx1
   obtain ⟨H2, e2⟩ : ∃ H2, H2 = upd (upd (upd H1 dm (.own pm)) pm (.ins C_Meter dm (fl_Meter (.int m) (.int (MeterM.mn 2 m)) (.int m) (.int 0)))) x (.ins C_Sender dx (fl_Sender_3 (.int r) (.ref pw) (.ref pm))) := ⟨_, rfl⟩
   rw [← e2]
   have hx2 : H2 x = some (.ins C_Sender dx (fl_Sender_3 (.int r) (.ref pw) (.ref pm))) := by rw [e2]; exact upd_same
   have m2 : H2 pm = some (.ins C_Meter dm (fl_Meter (.int m) (.int (MeterM.mn 2 m)) (.int m) (.int 0))) := by rw [e2, upd_ne nmx.symm]; exact upd_same
   have b2 : But x H1 H2 := fun b o e n => by rw [e2, upd_ne n, upd_ne (ne_of_none e npm), upd_ne (ne_of_none e ndm)]; exact e
   have nwm : pw ≠ pm := ne_of_none w1 npm
   have w2 := b2 _ _ w1 nwx.symm
   clear e2
   rw [← h_u2, tHold]
   generalize h_u3 : tHold _ = u3
   walk_at "wps"
   intro pt npt
   have ntx : x ≠ pt := ne_of_none hx2 npt
   exists upd_ne ntx, hx2
   obtain ⟨H3, e3⟩ : ∃ H3, H3 = upd (upd H2 pt (.lst [])) x (.ins C_Sender dx (fl_Sender_9 (.int r) (.ref pw) (.ref pm) (.ref pt) (.int 0) (.int 0) (.int 1) .non (.bl false))) := ⟨_, rfl⟩
   rw [← e3]
   have hx3 : H3 x = some (.ins C_Sender dx (fl_Sender_9 (.int r) (.ref pw) (.ref pm) (.ref pt) (.int 0) (.int 0) (.int 1) .non (.bl false))) := by rw [e3]; exact upd_same
   have t3 : H3 pt = some (.lst []) := by rw [e3, upd_ne ntx.symm]; exact upd_same
   have b3 : But x H2 H3 := fun b o e n => by rw [e3, upd_ne n, upd_ne (ne_of_none e npt)]; exact e
   clear e3
   rw [← h_u3, tHold]
   generalize h_u4 : tHold _ = u4
   walk_at "wps"
   intro pk npk
   have nkx : x ≠ pk := ne_of_none hx3 npk
   exists upd_ne nkx, hx3
   obtain ⟨H4, e4⟩ : ∃ H4, H4 = upd (upd H3 pk (.dK [])) x (.ins C_Sender dx (fl_Sender_10 (.int r) (.ref pw) (.ref pm) (.ref pt) (.int 0) (.int 0) (.int 1) .non (.bl false) (.ref pk))) := ⟨_, rfl⟩
   rw [← e4]
   have hx4 : H4 x = some (.ins C_Sender dx (fl_Sender_10 (.int r) (.ref pw) (.ref pm) (.ref pt) (.int 0) (.int 0) (.int 1) .non (.bl false) (.ref pk))) := by rw [e4]; exact upd_same
   have k4 : H4 pk = some (.dK []) := by rw [e4, upd_ne nkx.symm]; exact upd_same
   have b4 : But x H3 H4 := fun b o e n => by rw [e4, upd_ne n, upd_ne (ne_of_none e npk)]; exact e
   clear e4
   rw [← h_u4, tHold]
   generalize h_u5 : tHold _ = u5
   walk_at "wps"
   intro pf npf
   have nfx : x ≠ pf := ne_of_none hx4 npf
   exists upd_ne nfx, hx4
   obtain ⟨H5, e5⟩ : ∃ H5, H5 = upd (upd H4 pf (.dK [])) x (.ins C_Sender dx (fl_Sender_11 (.int r) (.ref pw) (.ref pm) (.ref pt) (.int 0) (.int 0) (.int 1) .non (.bl false) (.ref pk) (.ref pf))) := ⟨_, rfl⟩
   rw [← e5]
   have hx5 : H5 x = some (.ins C_Sender dx (fl_Sender_11 (.int r) (.ref pw) (.ref pm) (.ref pt) (.int 0) (.int 0) (.int 1) .non (.bl false) (.ref pk) (.ref pf))) := by rw [e5]; exact upd_same
   have f5 : H5 pf = some (.dK []) := by rw [e5, upd_ne nfx.symm]; exact upd_same
   have b5 : But x H4 H5 := fun b o e n => by rw [e5, upd_ne n, upd_ne (ne_of_none e npf)]; exact e
   clear e5
   rw [← h_u5, tHold]
   walk_at "wps"
   intro pa npa
   have nax : x ≠ pa := ne_of_none hx5 npa
   exists upd_ne nax, hx5
   have b6 : But x H5 (upd (upd H5 pa (.dK [])) x (.ins C_Sender dx (fl_Sender (.int r) (.ref pw) (.ref pm) (.ref pt) (.int 0) (.int 0) (.int 1) .non (.bl false) (.ref pk) (.ref pf) (.ref pa)))) := fun b o e n => by rw [upd_ne n, upd_ne (ne_of_none e npa)]; exact e
   have k5 := b5 _ _ k4 nkx.symm
   refine q ⟨dx, pw, pm, pt, pk, pf, pa, dw, dm⟩ _ (fun b o e n => b6 _ _ (b5 _ _ (b4 _ _ (b3 _ _ (b2 _ _ (b1 b o e n) n) n) n) n) n) ⟨upd_same, b6 _ _ (b5 _ _ (b4 _ _ t3 ntx.symm) ntx.symm) ntx.symm, b6 _ _ k5 nkx.symm, b6 _ _ f5 nfx.symm, by rw [upd_ne nax.symm]; exact upd_same, ⟨by show 2 ≤ l; omega, by show 2 ≤ f ∧ f ≤ l; omega, .inl ⟨rfl, rfl, b6 _ _ (b5 _ _ (b4 _ _ (b3 _ _ w2 nwx.symm) nwx.symm) nwx.symm) nwx.symm⟩⟩, ⟨b6 _ _ (b5 _ _ (b4 _ _ (b3 _ _ m2 nmx.symm) nmx.symm) nmx.symm) nmx.symm, ?_⟩, ne_of_none k4 npf, ne_of_none k5 npa, ne_of_none f5 npa, nwx, nmx, nwm⟩
   show 1 ≤ MeterM.mn 2 m ∧ MeterM.mn 2 m ≤ m ∧ (0 : Int) ≤ 0 ∧ (0 : Int) < MeterM.mn 2 m
   unfold MeterM.mn
   split <;> omega
  ·exact h.elim
theorem ok_Taker___init__ (T : Txt K mg C_Meter C_Ways C_Sender C_Taker)  : MtAt P w K mg base CX0 C_Taker "__init__" 1 ["self", "ring", "room"] (sp_Taker___init__ C_Taker) := by
 refine T.d_Taker___init__.fn sc_Taker___init__ bd_Taker___init__ (fun vs H Q E h => ?_) fun f cdv A outer s H vs Q E HR h => ?_
 ·unfold sp_Taker___init__ at h; split at h <;> first | rfl | exact h.elim
 ·unfold sp_Taker___init__ at h
  split at h
  ·rename_i x r m
   refine ⟨_, (pss_cons (ps_fldC (pv 0) (pv 1) T.k_Taker T.n_Taker_ring)
 (pss_cons (ps_fldC (pv 0) (pv 2) T.k_Taker T.n_Taker_room)
 (pss_cons (ps_fldC (pv 0) pe_int T.k_Taker T.n_Taker_got)
 (pss_cons (ps_fldC (pv 0) pe_int T.k_Taker T.n_Taker_out)
 (pss_one (ps_fldC (pv 0) pe_dnewK T.k_Taker T.n_Taker_kept)))))), ?_⟩
   obtain ⟨dx, hx, q⟩ := h
   exists hx
   intro p1 h1
   have n1 : x ≠ p1 := (fresh_ne h1).symm
   exists upd_ne n1
   have k1 : H p1 = none := by rw [upd_ne n1.symm] at h1; exact h1
   refine q p1 _ k1 ?_ ⟨upd_same, ?_⟩
   ·intro b o hb hne
    rw [upd_ne hne, upd_ne (ne_of_none hb k1), upd_ne hne]; exact hb
   ·rw [upd_ne n1.symm, upd_same]
  ·exact h.elim
theorem ok_Taker_room_left (T : Txt K mg C_Meter C_Ways C_Sender C_Taker)  : MtAt P w K mg base CX0 C_Taker "room_left" 1 ["self"] (sp_Taker_room_left C_Taker) := by
 refine T.d_Taker_room_left.fn sc_Taker_room_left bd_Taker_room_left (fun vs H Q E h => ?_) fun f cdv A outer s H vs Q E HR h => ?_
 ·unfold sp_Taker_room_left at h; split at h <;> first | rfl | exact h.elim
 ·unfold sp_Taker_room_left at h
  split at h
  ·rename_i x
   refine ⟨_, (pss_one (ps_ret (pe_op op_sub (pe_op (op_addK K rfl) (pe_fldC (pv 0) T.k_Taker T.n_Taker_out rfl) (pe_fldC (pv 0) T.k_Taker T.n_Taker_room rfl)) (pe_fldC (pv 0) T.k_Taker T.n_Taker_got rfl)))), ?_⟩
   obtain ⟨dx, pk, z, hT, q⟩ := h
   exists hT.hx
   exact q
  ·exact h.elim
theorem ok_Taker_stand_in_order (T : Txt K mg C_Meter C_Ways C_Sender C_Taker)  : MtAt P w K mg base CX0 C_Taker "stand_in_order" 1 ["self"] (sp_Taker_stand_in_order C_Taker) := by
 refine T.d_Taker_stand_in_order.fn sc_Taker_stand_in_order bd_Taker_stand_in_order (fun vs H Q E h => ?_) fun f cdv A outer s H vs Q E HR h => ?_
 ·unfold sp_Taker_stand_in_order at h; split at h <;> first | rfl | exact h.elim
 ·unfold sp_Taker_stand_in_order at h
  split at h
  ·rename_i x
   refine ⟨_, (pss_cons (ps_setQ (i := 1) sc_Taker_stand_in_order.nd rfl (Or.inl rfl) (pe_lst pa_nil))
 (pss_cons (ps_while PassesOwn.never (pt_cmp (pc_dI HR.units (pe_fldC (pv 0) T.k_Taker T.n_Taker_got rfl) (pe_fldC (pv 0) T.k_Taker T.n_Taker_kept rfl)) (nomarkQ rfl)) (pss_cons (ps_exprQ (pe_appendK K rfl (pv 1) (pe_dgI HR.units (pe_fldC (pv 0) T.k_Taker T.n_Taker_kept rfl) (pe_fldC (pv 0) T.k_Taker T.n_Taker_got rfl) (fun _ _ => rfl))))
 (pss_one (ps_augC (pv 0) pe_int T.k_Taker T.n_Taker_got iop_add))))
 (pss_one (ps_ret (pv 1))))), ?_⟩
   obtain ⟨dx, pk, z, B, hT, hB, hB2, q⟩ := h
   walk_at "wps"
   intro p hp
   have npx : p ≠ x := (ne_of_none hT.hx hp).symm
   have npk : p ≠ pk := (ne_of_none hT.hD hp).symm
   have T1 := hT.same (same_upd (o := .lst []) hp)
   have l1 := upd_same (H := H) (a := p) (o := .lst [])
   have F1 : Fr2 x pk H (upd H p (.lst [])) := fun b u e _ _ => upd_old e hp
   generalize upd H p (.lst []) = H1 at *
   refine ⟨fun m σ H' => ∃ n : Nat, m = (B - (z.g + n)).toNat ∧ (∀ j : Nat, j < n → (valV z.D (ik (z.g + j))).isSome = true) ∧ Fr2 x pk H H' ∧ TkAt C_Taker H' x dx pk { z with g := z.g + n } ∧ H' p = some (.lst (vals z.D z.g n)) ∧ σ = [some (.ref x), some (.ref p)], ⟨_, 0, rfl, fun j hj => by omega, F1, by simpa using T1, by simpa [vals] using l1, rfl⟩, ?_⟩
   rintro m σ H' ⟨n, rfl, hn, hF, hT', hl, rfl⟩
   exists hT'.hx, hT'.hD, hl, upd_ne npx.symm
   have hlen : (vals z.D z.g n).length = n := by simp [vals]
   cases hv : valV z.D (ik (z.g + n)) with
   | none =>
    rw [if_neg (by simp)]
    exact q n p H' ⟨hn, hv⟩ hp hF hT' hl
   | some v =>
    rw [if_pos (by simp)]
    have hb := hB _ (by rw [hv]; rfl)
    refine ⟨fun σ' H'' => H'' = upd (upd H' p (.lst (vals z.D z.g n ++ [v]))) x (.ins C_Taker dx (fl_Taker (.int z.R) (.int z.M) (.int (z.g + n + 1)) (.int z.o) (.ref pk))) ∧ σ' = [some (.ref x), some (.ref p)], ?_, ?_⟩
    ·rintro σ' H'' ⟨rfl, rfl⟩
     refine ⟨(B - (z.g + (n + 1 : Nat))).toNat, by omega, n + 1, rfl, ?_, ?_, ⟨?_, ?_⟩, ?_, rfl⟩
     ·intro j hj
      by_cases c : j < n
      ·exact hn j c
      ·have : j = n := by omega
       subst this; rw [hv]; rfl
     ·intro b u e k1 k2
      rw [upd_ne k1, upd_ne (ne_of_none e hp)]; exact hF b u e k1 k2
     ·rw [upd_same]
      show some (HO.ins C_Taker dx (fl_Taker _ _ (.int (z.g + n + 1)) _ _)) = some (HO.ins C_Taker dx (fl_Taker _ _ (.int (z.g + ((n + 1 : Nat) : Int))) _ _))
      rw [show z.g + ((n + 1 : Nat) : Int) = z.g + n + 1 by omega]
     ·rw [upd_ne hT.n1, upd_ne npk.symm]; exact hT'.hD
     ·rw [upd_ne npx, upd_same, vals_succ hv]
    ·refine ⟨tyV_list (SqL.of hl), v, rfl, ?_⟩
     exists hT'.hx, upd_ne npx.symm
     rw [hlen, sizeLine_eq]; omega
  ·exact h.elim
theorem ok_Taker_take (T : Txt K mg C_Meter C_Ways C_Sender C_Taker)  : MtAt P w K mg base CX0 C_Taker "take" 2 ["self", "number", "thing"] (sp_Taker_take C_Taker) := by
 refine T.d_Taker_take.fn sc_Taker_take bd_Taker_take (fun vs H Q E h => ?_) fun f cdv A outer s H vs Q E HR h => ?_
 ·unfold sp_Taker_take at h; split at h <;> first | rfl | exact h.elim
 ·unfold sp_Taker_take at h
  split at h
  ·rename_i x m th
   refine ⟨_, (pss_cons (ps_setQ (i := 3) sc_Taker_take.nd rfl (Or.inl rfl) (pe_fnQ (ok_ahead T) HR (by decide) rfl (pa_q (pe_fldC (pv 0) T.k_Taker T.n_Taker_ring rfl) (pa_q (pe_fldC (pv 0) T.k_Taker T.n_Taker_got rfl) (pa_q (pv 1) pa_nil)))))
 (pss_cons (ps_if (pt_cmpR op_ge (pv 3) (pe_mtC0 (pv 0) T.k_Taker (ok_Taker_room_left T) HR (by decide)) (nomark _)) (pss_one (ps_ret (pe_tup (pa_q pe_non (pa_q (pe_lst pa_nil) pa_nil))))) pss_nil)
 (pss_cons (ps_setQ (i := 4) sc_Taker_take.nd rfl (Or.inl rfl) (pe_op (op_addK K rfl) (pe_fldC (pv 0) T.k_Taker T.n_Taker_got rfl) (pv 3)))
 (pss_cons (ps_if (pt_cmp (pc_dNI HR.units (pv 4) (pe_fldC (pv 0) T.k_Taker T.n_Taker_kept rfl)) (nomarkQ rfl)) (pss_one (ps_dpI HR.units (pe_fldC (pv 0) T.k_Taker T.n_Taker_kept rfl) (pv 4) (pv 2))) pss_nil)
 (pss_one (ps_ret (pe_tup (pa_q (pv 4) (pa_q (pe_mtC0 (pv 0) T.k_Taker (ok_Taker_stand_in_order T) HR (by decide)) pa_nil))))))))), ?_⟩
   obtain ⟨dx, pk, z, B, hT, hR, hB, hB2, hB3, hlen, q⟩ := h
   exists hT.hx
   refine ⟨hR, dx, pk, z, hT, ?_⟩
   rcases q with ⟨c, q⟩ | ⟨c, q⟩
   ·rw [if_pos c]
    intro l hl p hp
    exact q p l _ (fun b o e => upd_old (upd_old e hl) hp) (free_of (same_upd hl) hp) hl upd_same (upd_old upd_same hp)
   ·rw [if_neg (by omega)]
    exists hT.hD, hT.hx
    have fr_none : ∀ {H' : Hp} {p : Addr} {z' : Tk}, Fr2 x pk H H' → TkAt C_Taker H' x dx pk z' → H' p = none → H p = none := fun {H' p z'} fr T' hp => by
     cases e : H p with
     | none => rfl
     | some u =>
      have := fr p u e (fun c => by rw [c, T'.hx] at hp; cases hp) (fun c => by rw [c, T'.hD] at hp; cases hp)
      rw [this] at hp; cases hp
    cases hv : valV z.D (ik (z.g + (m - z.g) % z.R)) with
    | some v =>
     rw [if_neg (by simp)]
     refine ⟨dx, pk, z, B, hT, hB, hB2, fun n l H' hr hl fr T' hl' p hp => ?_⟩
     refine q z.D (by rw [hv]; rfl) n p l _ hr (fr_none fr T' hp) hl (fun c => by rw [c, hl'] at hp; cases hp) (fun b u e k1 k2 => upd_old (fr b u e k1 k2) hp) (T'.same (same_upd hp)) (upd_old hl' hp) upd_same
    | none =>
     rw [if_pos (by simp)]
     exists hT.hD, upd_ne hT.n1.symm, hT.hx
     refine ⟨by rw [sizeLine_eq]; omega, ?_⟩
     have T1 : TkAt C_Taker (upd H pk (.dK (putK z.D (ik (z.g + (m - z.g) % z.R)) (.ref th)))) x dx pk { z with D := putK z.D (ik (z.g + (m - z.g) % z.R)) (.ref th) } := ⟨by rw [upd_ne hT.n1.symm]; exact hT.hx, upd_same⟩
     have hB' : ∀ i, (valV (putK z.D (ik (z.g + (m - z.g) % z.R)) (.ref th)) (ik i)).isSome = true → i < B := fun i hi => by
      rw [valV_put] at hi
      split at hi
      ·rename_i ce
       have := Sum.inl.inj ce
       omega
      ·exact hB i hi
     refine ⟨dx, pk, _, B, T1, hB', hB2, fun n l H' hr hl fr T' hl' p hp => ?_⟩
     have fr' : Fr2 x pk H H' := fun b u e k1 k2 => fr b u (by rw [upd_ne k2]; exact e) k1 k2
     have hl0 : H l = none := by
      rw [upd_ne (fun c => by rw [c, upd_same] at hl; cases hl)] at hl; exact hl
     exact q _ (by rw [hv]; rfl) n p l _ hr (fr_none fr' T' hp) hl0 (fun c => by rw [c, hl'] at hp; cases hp) (fun b u e k1 k2 => upd_old (fr' b u e k1 k2) hp) (T'.same (same_upd hp)) (upd_old hl' hp) upd_same
  ·exact h.elim
theorem ok_Taker_answer (T : Txt K mg C_Meter C_Ways C_Sender C_Taker)  : MtAt P w K mg base CX0 C_Taker "answer" 2 ["self"] (sp_Taker_answer C_Taker) := by
 refine T.d_Taker_answer.fn sc_Taker_answer bd_Taker_answer (fun vs H Q E h => ?_) fun f cdv A outer s H vs Q E HR h => ?_
 ·unfold sp_Taker_answer at h; split at h <;> first | rfl | exact h.elim
 ·unfold sp_Taker_answer at h
  split at h
  ·rename_i x
   refine ⟨_, (pss_cons (ps_setc (i := 1) (N := (["step", "self"] : List Str)) (nv := 1) (ix := [0]) rfl sc_Taker_answer.nd rfl rfl (cs_of (by kernel_rfl)) (pj_range2 rfl T.b_range (pa_q pe_int (pa_q (pe_mtC0 (pv 0) T.k_Taker (ok_Taker_room_left T) HR (by decide)) pa_nil))) (fun _ _ _ _ _ => (pg_name (i := 0) (show ((["step", "self"] : List Str)).Nodup by decide) rfl (Or.inl rfl))) (fun _ _ _ _ _ => (pts_one (pt_cmp (pc_dI HR.units (pe_op (op_addK K rfl) (pe_fldC (pv 1) T.k_Taker T.n_Taker_got rfl) (pv 0)) (pe_fldC (pv 1) T.k_Taker T.n_Taker_kept rfl)) (nomarkQ rfl)))) (fun _ _ _ _ _ => (pv 0)))
 (pss_one (ps_ret (pe_tup (pa_q (pe_op op_mod (pe_fldC (pv 0) T.k_Taker T.n_Taker_got rfl) (pe_fldC (pv 0) T.k_Taker T.n_Taker_ring rfl)) (pa_q (pe_mtC0 (pv 0) T.k_Taker (ok_Taker_room_left T) HR (by decide)) (pa_q (pe_callTyQ (call_tupleK K rfl) (by rfl) T.b_tuple bt_tuple (pa_q (pv 1) pa_nil)) pa_nil))))))), ?_⟩
   obtain ⟨dx, pk, z, hT, hR, hr, q⟩ := h
   exists hT.hx
   refine ⟨dx, pk, z, hT, by omega, ?_⟩
   refine co_rng (p := fun v => match v with | .int i => (valV z.D (ik (z.g + i))).isSome | _ => false) (f := fun v => v) (small_ok (by omega)) ?_ ?_ ?_
   ·intro i hi Q' q'
    exists hT.hx, hT.hD
    exact q'
   ·intro i hi _ Q' q'
    walk_at "wps"
    exact q'
   rw [held_eq]
   have hlen : (heldL z.D z.g (z.o + z.M - z.g - 1).toNat).length ≤ 1000 := by
    unfold heldL
    rw [List.length_map]
    refine Nat.le_trans (List.length_filter_le _ _) ?_
    rw [List.length_range]; omega
   refine ⟨small_ok (by rw [List.length_map]; exact hlen), fun l hl => ?_⟩
   generalize hhs : heldL z.D z.g (z.o + z.M - z.g - 1).toNat = hs at *
   have T1 := hT.same (same_upd (o := .lst (hs.map V.int)) hl)
   have l1 := upd_same (H := H) (a := l) (o := .lst (hs.map V.int))
   have S1 := same_upd (o := .lst (hs.map V.int)) hl
   generalize upd H l (.lst (hs.map V.int)) = H1 at *
   exists T1.hx
   refine ⟨hR, dx, pk, z, T1, _, .inl ⟨SqL.of l1, fun t ht p hp => ?_⟩⟩
   exact q p t hs _ (fun b o e => upd_old (upd_old (S1 b o e) ht) hp) rfl (free_of (fun b o e => upd_old (S1 b o e) ht) hp) (free_of S1 ht) (upd_old upd_same hp) upd_same
  ·exact h.elim
theorem ok_Taker_read (T : Txt K mg C_Meter C_Ways C_Sender C_Taker)  : MtAt P w K mg base CX0 C_Taker "read" 1 ["self", "most"] (sp_Taker_read C_Taker) := by
 refine T.d_Taker_read.fn sc_Taker_read bd_Taker_read (fun vs H Q E h => ?_) fun f cdv A outer s H vs Q E HR h => ?_
 ·unfold sp_Taker_read at h; split at h <;> first | rfl | exact h.elim
 ·unfold sp_Taker_read at h
  split at h
  ·rename_i x m
   refine ⟨_, (pss_cons (ps_setQ (i := 2) sc_Taker_read.nd rfl (Or.inl rfl) (pe_lst pa_nil))
 (pss_cons (ps_for PassesOwn.never rfl (pj_range2 rfl T.b_range (pa_q (pe_fldC (pv 0) T.k_Taker T.n_Taker_out rfl) (pa_q (pe_callBQ (call_minA rfl) (by rfl) T.b_min bt_min (pa_q (pe_op (op_addK K rfl) (pe_fldC (pv 0) T.k_Taker T.n_Taker_out rfl) (pv 1)) (pa_q (pe_fldC (pv 0) T.k_Taker T.n_Taker_got rfl) pa_nil))) pa_nil))) (pg_name (i := 3) sc_Taker_read.nd rfl (Or.inl rfl)) (pss_one (ps_exprQ (pe_appendK K rfl (pv 2) (pe_dopI (pe_fldC (pv 0) T.k_Taker T.n_Taker_kept rfl) (pv 3))))))
 (pss_cons (ps_augC (pv 0) (pe_callBQ (call_lenB K rfl) (by rfl) T.b_len bt_len (pa_q (pv 2) pa_nil)) T.k_Taker T.n_Taker_out iop_add)
 (pss_one (ps_ret (pv 2)))))), ?_⟩
   obtain ⟨dx, pk, z, hT, hb, hin, q⟩ := h
   exists hT.hx
   intro p hp
   have npx : p ≠ x := (ne_of_none hT.hx hp).symm
   have npk : p ≠ pk := (ne_of_none hT.hD hp).symm
   have T1 := hT.same (same_upd (o := .lst []) hp)
   have l1 := upd_same (H := H) (a := p) (o := .lst [])
   have F1 : Fr2 x pk H (upd H p (.lst [])) := fun b u e _ _ => upd_old e hp
   generalize upd H p (.lst []) = H1 at *
   exists T1.hx
   refine ⟨by constructor <;> (try constructor) <;> (try constructor) <;> (try split) <;> omega, ?_⟩
   generalize hN : ((if z.g < z.o + m then z.g else z.o + m) - z.o).toNat = N at *
   have hN2 : z.o + N ≤ z.g := by split at hN <;> omega
   refine fo_rng (fun i σ H' => i ≤ N ∧ ∃ (D' : List (Key × V)) (v3 : Option V), (∀ k : Int, valV D' (ik k) = if z.o ≤ k ∧ k < z.o + i then none else valV z.D (ik k)) ∧ D'.Sublist z.D ∧ Fr2 x pk H H' ∧ TkAt C_Taker H' x dx pk { z with D := D' } ∧ H' p = some (.lst (vals z.D z.o i)) ∧ σ = [some (.ref x), some (.int m), some (.ref p), v3])
    ⟨Nat.zero_le _, z.D, none, fun k => by rw [if_neg (by omega)], List.Sublist.refl _, F1, T1, by simpa [vals] using l1, rfl⟩ (fun i σ H' hi hp' => ?_) (fun σ H' hp' => ?_)
   ·obtain ⟨hiN, D', v3, hD', hlD, hF, hT', hl, rfl⟩ := hp'
    exists hT'.hx, hT'.hD, hl, upd_ne npk
    obtain ⟨v, hv⟩ := Option.isSome_iff_exists.mp (hin (z.o + i) (by omega) (by omega))
    refine ⟨tyV_list (SqL.of hl), v, by rw [hD', if_neg (by omega)]; exact hv, ?_⟩
    refine ⟨by simp [vals]; rw [sizeLine_eq]; omega, by omega, dropK D' (ik (z.o + i)), _, fun k => ?_, (show (dropK D' (ik (z.o + i))).Sublist D' from List.filter_sublist).trans hlD, ?_, ⟨?_, ?_⟩, by rw [vals_succ hv], rfl⟩
    ·rw [valV_drop, hD']
     by_cases c : k = z.o + i
     ·rw [if_pos (by rw [c]), if_pos (by omega)]
     ·rw [if_neg (by intro q; exact c (Sum.inl.inj q))]
      by_cases c2 : z.o ≤ k ∧ k < z.o + i
      ·rw [if_pos c2, if_pos (by omega)]
      ·rw [if_neg c2, if_neg (by omega)]
    ·intro b u e k1 k2
     rw [upd_ne (ne_of_none e hp), upd_ne k2]; exact hF b u e k1 k2
    ·rw [upd_ne npx.symm, upd_ne hT.n1.symm]; exact hT'.hx
    ·rw [upd_ne npk.symm, upd_same]
   ·obtain ⟨hiN, D', v3, hD', hlD, hF, hT', hl, rfl⟩ := hp'
    exists hT'.hx, hl
    have hlen : (vals z.D z.o N).length = N := by simp [vals]
    rw [hlen]
    refine q N p D' _ rfl hp hD' hlD ?_ (hT'.put z.R z.M z.g (z.o + N)) ?_
    ·intro b u e k1 k2; rw [upd_ne k1]; exact hF b u e k1 k2
    ·rw [upd_ne npx]; exact hl
  ·exact h.elim
theorem ok__law_mixed (T : Txt K mg C_Meter C_Ways C_Sender C_Taker)  : FnAt P w K mg base CX0 "_law_mixed" 1 ["_law_cell", "_law_k", "_law_turn_here"] sp__law_mixed := by
 refine T.d__law_mixed.fn sc__law_mixed bd__law_mixed (fun vs H Q E h => ?_) fun f cdv A outer s H vs Q E HR h => ?_
 ·unfold sp__law_mixed at h; split at h <;> first | rfl | exact h.elim
 ·unfold sp__law_mixed at h
  split at h
  ·rename_i c k t
   refine ⟨_, (pss_cons (ps_if (PW.pt (pw_and (pt_cmpR op_ge (pv 0) (pe_op op_shlA pe_int pe_int) (nomark _)) (pw_and (pt_cmpR (op_eqK K rfl HR.units) (pe_op op_mod (pv 0) pe_int) pe_int (nomark _)) (pw_and1 (pt_cmpR op_gt (pe_op op_shr (pv 0) (pe_op (op_addK K rfl) pe_int (pe_op op_mul pe_int (pv 1)))) pe_int (nomark _)))))) (pss_one (ps_ret (pe_op op_mod (pe_op op_shr (pv 0) (pe_op (op_addK K rfl) pe_int (pe_op op_mul pe_int (pv 1)))) pe_int))) pss_nil)
 (pss_hold (pss_cons (ps_setQ (i := 3) sc__law_mixed.nd rfl (Or.inl rfl) (pe_op (op_addK K rfl) (pe_op op_mod (pe_op (op_addK K rfl) (pv 0) (pe_op op_mul pe_int (pv 1))) pe_int) pe_int))
 (pss_cons (ps_for PassesOwn.never rfl (pj_range1 rfl T.b_range (pa_q pe_int pa_nil)) (pg_name (i := 4) sc__law_mixed.nd rfl (Or.inl rfl)) (pss_one (ps_setQ (i := 3) sc__law_mixed.nd rfl (Or.inl rfl) (pe_op op_mod (pe_op (op_addK K rfl) (pe_op (op_addK K rfl) (pe_op op_mulW (pv 3) (pv 3)) (pe_op op_mul pe_int (pv 3))) (pv 2)) pe_int))))
 (pss_one (ps_ret (pv 3))))))), ?_⟩
   obtain ⟨hb, q⟩ := h
   generalize h_u1 : tHold _ = u1
   walk_at "wps"
   have sh : CShl 1 90 := ⟨⟨by decide, by decide⟩, by decide +kernel, by decide +kernel⟩
   have tail : u1 { nx := fun _ H' => Q .non H', rt := Q } [some (.int c), some (.int k), some (.int t), none, none] H := by
    rw [← h_u1, tHold]
    walk_at "wps"
    refine fo_rng (lo := 0) (n := 2) (fun i σ H' => H' = H ∧ ∃ v v3, σ = [some (.int c), some (.int k), some (.int t), some (.int v), v3] ∧ 0 ≤ v ∧ v < 2147483647 + 48271) ⟨rfl, _, none, rfl, by omega, by omega⟩ (fun i σ H' _ hp => ?_) (fun σ H' hp => ?_)
    ·obtain ⟨rfl, v, v3, rfl, h0, h1⟩ := hp
     walk_at "wps"
     exact ⟨mulW_l ⟨by omega, by omega⟩, _, _, rfl, Int.emod_nonneg _ (by decide), by have := Int.emod_lt_of_pos (v * v + 48271 * v + t) (show (0 : Int) < 2147483647 by decide); omega⟩
    ·obtain ⟨rfl, v, v3, rfl, h0, h1⟩ := hp
     walk_at "wps"
     exact q v h0
   refine ⟨sh, ?_⟩
   repeat' first | exact tail | exact q _ (Int.emod_nonneg _ (by decide)) | omega | (refine ⟨?_, ?_⟩) | split
  ·exact h.elim
theorem ok__law_ring (T : Txt K mg C_Meter C_Ways C_Sender C_Taker)  : FnAt P w K mg base CX0 "_law_ring" 1 ["_law_cell", "_law_room", "_law_lag"] sp__law_ring := by
 refine T.d__law_ring.fn sc__law_ring bd__law_ring (fun vs H Q E h => ?_) fun f cdv A outer s H vs Q E HR h => ?_
 ·unfold sp__law_ring at h; split at h <;> first | rfl | exact h.elim
 ·unfold sp__law_ring at h
  split at h
  ·rename_i c m g
   refine ⟨_, (pss_cons (ps_setQ (i := 3) sc__law_ring.nd rfl (Or.inl rfl) (pe_op op_sub (pe_op (op_addK K rfl) (pe_op op_mul pe_int (pv 1)) (pv 2)) pe_int))
 (pss_mid (ps_if (pt_cmpR (op_eqK K rfl HR.units) (pv 1) pe_int (nomark _)) (pss_one (ps_setQ (i := 3) sc__law_ring.nd rfl (Or.inl rfl) (pe_op (op_addK K rfl) pe_int (pe_op op_fdiv (pv 2) pe_int)))) pss_nil)
 (pss_cons (ps_if (pt_cmpR op_lt (pe_op op_mod (pv 0) pe_int) pe_int (nomark _)) (pss_one (ps_ret (pv 3))) pss_nil)
 (pss_cons (ps_if (pt_cmpR (op_eqK K rfl HR.units) (pe_op op_mod (pv 0) pe_int) pe_int (nomark _)) (pss_one (ps_ret (pe_op (op_addK K rfl) (pv 3) (pe_op op_mod (pe_op op_fdiv (pv 0) pe_int) pe_int)))) pss_nil)
 (pss_one (ps_ret (pe_op (op_addK K rfl) (pv 3) (pe_op op_mod (pe_op op_fdiv (pv 0) pe_int) (pe_op (op_addK K rfl) (pe_op op_sub (pe_op op_powA pe_int pe_int) (pv 3)) pe_int))))))))), ?_⟩
   obtain ⟨hb, q⟩ := h
   walk_at "wps"
   refine ⟨fun σ' H' => H' = H ∧ ∃ L : Int, σ' = [some (.int c), some (.int m), some (.int g), some (.int L)] ∧ ((m = 1 ∧ L = 2 + g / 2) ∨ (2 ≤ m ∧ L = 2 * m + g - 1)), ?_, ?_⟩
   ·walk_at "wps"
    split
    ·exact ⟨_, rfl, .inl ⟨by assumption, rfl⟩⟩
    ·exact ⟨_, rfl, .inr ⟨by omega, rfl⟩⟩
   ·rintro σ' H' ⟨rfl, L, rfl, hL⟩
    have e1 := Int.emod_nonneg (c / 4) (show (1000000000 - L + 1 : Int) ≠ 0 by omega)
    walk_at "wps"
    unfold RgOk at q
    split
    ·exact q _ (by omega)
    ·split
     ·exact q _ (by omega)
     ·exact ⟨by omega, q _ (by omega)⟩
  ·exact h.elim
theorem ok__law_put_on (T : Txt K mg C_Meter C_Ways C_Sender C_Taker)  : FnAt P w K mg base CX0 "_law_put_on" 1 ["_law_lane", "_law_number", "_law_turn_here", "_law_lag", "_law_what"] sp__law_put_on := by
 refine T.d__law_put_on.fn sc__law_put_on bd__law_put_on (fun vs H Q E h => ?_) fun f cdv A outer s H vs Q E HR h => ?_
 ·unfold sp__law_put_on at h; split at h <;> first | rfl | exact h.elim
 ·unfold sp__law_put_on at h
  split at h
  ·rename_i d n t g v
   refine ⟨_, (pss_cons (ps_setQ (i := 5) sc__law_put_on.nd rfl (Or.inl rfl) (pe_op op_fdiv (pv 1) pe_int))
 (pss_one (ps_for PassesOwn.never rfl (pj_range1 rfl T.b_range (pa_q (pe_op op_mod (pv 1) pe_int) pa_nil)) (pg_name (i := 6) sc__law_put_on.nd rfl (Or.inl rfl)) (pss_cons (ps_exprQ (pe_appendK K rfl (pe_dsdD (pv 0) (pe_op (op_addK K rfl) (pe_op (op_addK K rfl) (pv 2) pe_int) (pe_op op_mod (pv 5) (pv 3))) (pe_lst pa_nil)) (pv 4)))
 (pss_one (ps_setQ (i := 5) sc__law_put_on.nd rfl (Or.inl rfl) (pe_op op_fdivW (pv 5) (pv 3)))))))), ?_⟩
   obtain ⟨ln, ow, P', m, hL, hO, hm, hg, hP, q⟩ := h
   walk_at "wps"
   refine ⟨by omega, ?_⟩
   refine fo_rng (lo := 0) (n := (n % 4).toNat) (fun i σ H' => ∃ ow' r v6, σ = [some (.ref d), some (.int n), some (.int t), some (.int g), some v, some (.int r), v6] ∧ LFr d ln ow ow' H H' ∧ OwD H' ow' ∧ LaneAt H' d ln ow' P' (m + i) ∧ (0 < i → g = 1 → InL H' d (t + 1) v)) ⟨ow, _, none, rfl, ⟨fun b u e _ _ => e, fun b u e => rfl⟩, hO, hL, fun c => absurd c (Nat.lt_irrefl _)⟩ (fun i σ H1 hi hp => ?_) (fun σ H1 hp => ?_)
   ·obtain ⟨ow1, r, v6, rfl, hF1, hO1, ⟨kvs, hd, hkl, hk⟩, _⟩ := hp
    have e1 := Int.emod_nonneg r (show g ≠ 0 by omega)
    have e2 := Int.emod_lt_of_pos r (show 0 < g by omega)
    exists hd
    refine ⟨by omega, fun p hp => ?_⟩
    have ndp : d ≠ p := ne_of_none hd hp
    have hd2 : upd H1 p (.lst []) d = some (.dK kvs) := by rw [upd_ne ndp]; exact hd
    rw [hd2, dsdO_k]
    have pi : P' (t + 1 + r % g) v := hP _ (by omega) (by omega)
    refine ⟨by rw [sizeLine_eq]; omega, fun w hw => ?_, fun hn => ?_⟩
    ·obtain ⟨l, xs, rfl, g2, g3, g4, g5⟩ := hk _ _ hw
     have nlp : l ≠ p := ne_of_none g3 hp
     have nld : l ≠ d := ne_of g3 hd (by simp)
     have g6 : upd H1 p (.lst []) l = some (.lst xs) := by rw [upd_ne nlp]; exact g3
     exists g6
     refine ⟨tyV_list (SqL.of g6), by rw [sizeLine_eq]; omega, divW_s (by omega) (by omega), ow1, _, _, rfl, ⟨fun b u e n1 n2 => ?_, hF1.2⟩, fun b i hb => ?_, ⟨kvs, ?_, by omega, fun i w' hw' => ?_⟩, fun _ g1 => ⟨kvs, l, xs ++ [v], by rw [upd_ne nld.symm]; exact hd2, by rw [← hw, g1, Int.emod_one, Int.add_zero], upd_same, by simp⟩⟩
     ·have e1 := hF1.1 b u e n1 n2
      have nbl : b ≠ l := fun c => n2 (t + 1 + r % g) (by rw [← hF1.2 b u e, c]; exact g2)
      rw [upd_ne nbl, upd_ne (ne_of_none e1 hp)]
      exact e1
     ·obtain ⟨u, hu⟩ := hO1 b i hb
      by_cases c : b = l
      ·exact ⟨_, by rw [c]; exact upd_same⟩
      ·exact ⟨u, by rw [upd_ne c, upd_ne (ne_of_none hu hp)]; exact hu⟩
     ·rw [upd_ne nld.symm]; exact hd2
     ·obtain ⟨l', xs', k1, k2, k3, k4, k5⟩ := hk i w' hw'
      by_cases c : l' = l
      ·subst c
       rw [g2] at k2
       obtain ⟨_, rfl⟩ := Prod.mk.inj (Option.some.inj k2)
       refine ⟨l', _, k1, g2, upd_same, by rw [List.length_append, List.length_singleton]; omega, fun x hx => ?_⟩
       rcases List.mem_append.mp hx with hx | hx
       ·exact g5 x hx
       ·rw [List.mem_singleton.mp hx]; exact pi
      ·exact ⟨l', xs', k1, k2, by rw [upd_ne c, upd_ne (ne_of_none k3 hp)]; exact k3, by omega, k5⟩
    ·have g6 : upd (upd H1 p (.lst [])) d (.dK (putK kvs (ik (t + 1 + r % g)) (.ref p))) p = some (.lst []) := by rw [upd_ne ndp.symm]; exact upd_same
     exists g6
     have hl := length_putK kvs (ik (t + 1 + r % g)) (.ref p)
     refine ⟨tyV_list (SqL.of g6), divW_s (by omega) (by omega), fun b => if b = p then some (ln, t + 1 + r % g) else ow1 b, _, _, rfl, ⟨fun b u e n1 n2 => ?_, fun b u e => ?_⟩, fun b i hb => ?_, ⟨putK kvs (ik (t + 1 + r % g)) (.ref p), ?_, by omega, fun i w' hw' => ?_⟩, fun _ g1 => ⟨putK kvs (ik (t + 1 + r % g)) (.ref p), p, [v], by rw [upd_ne ndp]; exact upd_same, by rw [g1, Int.emod_one, Int.add_zero, valV_put, if_pos rfl], upd_same, by simp⟩⟩
     ·have e1 := hF1.1 b u e n1 n2
      rw [upd_ne (ne_of_none e1 hp), upd_ne n1, upd_ne (ne_of_none e1 hp)]
      exact e1
     ·have nb : b ≠ p := by
       intro c
       by_cases cd : b = d
       ·exact ndp (cd.symm.trans c)
       ·by_cases c2 : ∀ i, ow b ≠ some (ln, i)
        ·exact ne_of_none (hF1.1 b u e cd c2) hp c
        ·obtain ⟨i, hi⟩ := Classical.not_forall.mp c2
         have hi := Classical.not_not.mp hi
         rw [← hF1.2 b u e] at hi
         obtain ⟨u', hu'⟩ := hO1 b _ hi
         exact ne_of_none hu' hp c
      show (if b = p then _ else _) = _
      rw [if_neg nb]
      exact hF1.2 b u e
     ·replace hb : (if b = p then some (ln, t + 1 + r % g) else ow1 b) = some i := hb
      by_cases c : b = p
      ·exact ⟨_, by rw [c]; exact upd_same⟩
      ·rw [if_neg c] at hb
       obtain ⟨u, hu⟩ := hO1 b i hb
       exact ⟨u, by rw [upd_ne c, upd_ne (ne_of hu hd (by simp)), upd_ne c]; exact hu⟩
     ·rw [upd_ne ndp]; exact upd_same
     ·rw [valV_put] at hw'
      by_cases c : ik i = ik (t + 1 + r % g)
      ·rw [if_pos c] at hw'
       cases hw'
       have c' : i = t + 1 + r % g := by injection c
       subst c'
       refine ⟨p, [v], rfl, if_pos rfl, upd_same, by show 1 ≤ _; omega, fun x hx => ?_⟩
       rw [List.mem_singleton.mp hx]; exact pi
      ·rw [if_neg c] at hw'
       obtain ⟨l', xs', k1, k2, k3, k4, k5⟩ := hk i w' hw'
       have n1 := ne_of_none k3 hp
       exact ⟨l', xs', k1, (if_neg n1).trans k2, by rw [upd_ne n1, upd_ne (ne_of k3 hd (by simp)), upd_ne n1]; exact k3, by omega, k5⟩
   ·obtain ⟨ow1, r, v6, rfl, hF1, hO1, hL1, hI⟩ := hp
    exact q ow1 H1 hF1 hO1 (hL1.keep (fun o e => e) (fun l xs i _ e => ⟨e, rfl⟩) (fun i v h => h) (by omega)) (fun n1 g1 => hI (by omega) g1)
  ·exact h.elim
theorem eqL_ne {K : PySem.W.Frag} {H : Hp} {n : Nat} (hn : n < 60) {neg : Bool} {p r : Addr} {xs ys : List V} {ds es : List Dt} {Q : VK} (h1 : SqL K H p xs) (h2 : SqL K H r ys) (hd : Paired (Den K H n) xs ds) (he : Paired (Den K H n) ys es) (c : ds ≠ es) (q : Q (.bl neg) H) : rEqA K neg (.ref p) (.ref r) H Q :=
 ⟨n + 1, .l ds, .l es, by omega, .inr (.inl ⟨p, _, _, rfl, rfl, h1, hd⟩), .inr (.inl ⟨r, _, _, rfl, rfl, h2, he⟩), .inr ⟨fun h => c (by injection h), q⟩⟩
theorem ok__law_due (T : Txt K mg C_Meter C_Ways C_Sender C_Taker)  : FnAt P w K mg base CX0 "_law_due" 1 ["_law_lane", "_law_turn_here", "_law_number"] (sp__law_due K) := by
 refine T.d__law_due.fn sc__law_due bd__law_due (fun vs H Q E h => ?_) fun f cdv A outer s H vs Q E HR h => ?_
 ·unfold sp__law_due at h; split at h <;> first | rfl | exact h.elim
 ·unfold sp__law_due at h
  split at h
  ·rename_i d t n
   refine ⟨_, (pss_cons (ps_setQ (i := 3) sc__law_due.nd rfl (Or.inl rfl) (pe_callTyQ (call_listK K rfl) (by rfl) T.b_list bt_list (pa_q (pe_dgtD (pv 0) (pv 1) (pe_lst pa_nil)) pa_nil)))
 (pss_hold (pss_cons (ps_setQ (i := 4) sc__law_due.nd rfl (Or.inl rfl) (pe_lst pa_nil))
 (pss_hold (pss_cons (ps_while PassesOwn.never (pt_cmpR (op_neK K rfl HR.units) (pv 3) (pe_lst pa_nil) (nomark _)) (pss_cons (ps_setQ (i := 5) sc__law_due.nd rfl (Or.inl rfl) (pe_op op_mod (pv 2) (pe_callBQ (call_lenB K rfl) (by rfl) T.b_len bt_len (pa_q (pv 3) pa_nil))))
 (pss_cons (ps_setQ (i := 2) sc__law_due.nd rfl (Or.inl rfl) (pe_op op_fdivW (pv 2) (pe_callBQ (call_lenB K rfl) (by rfl) T.b_len bt_len (pa_q (pv 3) pa_nil))))
 (pss_one (ps_exprQ (pe_appendK K rfl (pv 4) (pe_bm PySem.F.plainAttrs_list PySem.F.slot_list_pop PySem.F.type_list_pop mt_popAt (pv 3) (pa_q (pv 5) pa_nil))))))))
 (pss_one (ps_ret (pv 4)))))))), ?_⟩
   obtain ⟨ln, ow, P', m, ⟨kvs, hd, hkl, hk⟩, hm, hD, q⟩ := h
   generalize h_u1 : tHold _ = u1
   exists hd
   intro p0 hp0
   have ndp : d ≠ p0 := ne_of_none hd hp0
   have hd2 : upd H p0 (.lst []) d = some (.dK kvs) := by rw [upd_ne ndp]; exact hd
   rw [hd2, dgtO_k]
   obtain ⟨l, xs, el, hl, hxl, hxs, hin⟩ : ∃ l xs, (valV kvs (ik t)).getD (.ref p0) = .ref l ∧ upd H p0 (.lst []) l = some (.lst xs) ∧ xs.length ≤ m ∧ (∀ x ∈ xs, P' t x) ∧ ∀ v, InL H d t v → v ∈ xs := by
    cases hv' : valV kvs (ik t) with
    | none => exact ⟨p0, [], rfl, upd_same, Nat.zero_le _, fun x hx => (by cases hx), fun v hv => (by obtain ⟨k', l', xs', a1, a2, _⟩ := hv; rw [hd] at a1; cases a1; rw [hv'] at a2; cases a2)⟩
    | some w =>
     obtain ⟨l, xs, rfl, g2, g3, g4, g5⟩ := hk _ _ hv'
     exact ⟨l, xs, rfl, by rw [upd_ne (ne_of_none g3 hp0)]; exact g3, g4, g5, fun v hv => (by obtain ⟨k', l', xs', a1, a2, a3, a4⟩ := hv; rw [hd] at a1; cases a1; rw [hv'] at a2; cases a2; rw [g3] at a3; cases a3; exact a4)⟩
   rw [el]
   have sm1 : Same H (upd H p0 (.lst [])) := same_upd hp0
   generalize upd H p0 (.lst []) = H1 at *
   walk_at "wps"
   refine ⟨xs, .inl (SqL.of hl), fun p1 hp1 => ?_⟩
   have sm2 : Same H (upd H1 p1 (.lst xs)) := fun b o e => upd_old (sm1 b o e) hp1
   have l2 := upd_same (H := H1) (a := p1) (o := .lst xs)
   generalize upd H1 p1 (.lst xs) = H2 at *
   rw [← h_u1, tHold]
   generalize h_u2 : tHold _ = u2
   walk_at "wps"
   intro p2 hp2
   have sm3 : Same H (upd H2 p2 (.lst [])) := fun b o e => upd_old (sm2 b o e) hp2
   have l3 := upd_same (H := H2) (a := p2) (o := .lst [])
   have l4 := upd_old (o := .lst []) l2 hp2
   have n12 : p1 ≠ p2 := ne_of_none l2 hp2
   have hp20 : H p2 = none := free_of sm2 hp2
   have hp10 : H p1 = none := free_of sm1 hp1
   generalize upd H2 p2 (.lst []) = H3 at *
   rw [← h_u2, tHold]
   walk_at "wps"
   refine ⟨fun k σ H' => ∃ ys zs n' v5, k = ys.length ∧ Same H H' ∧ H' p1 = some (.lst ys) ∧ H' p2 = some (.lst zs) ∧ ys.length + zs.length ≤ m ∧ (∀ y ∈ ys, P' t y) ∧ (∀ y ∈ zs, P' t y) ∧ (∀ v ∈ xs, v ∈ ys ∨ v ∈ zs) ∧ σ = [some (.ref d), some (.int t), some (.int n'), some (.ref p1), some (.ref p2), v5], ⟨_, xs, [], n, none, rfl, sm3, l4, l3, by show xs.length + 0 ≤ m; omega, hxs, (fun y hy => by cases hy), (fun v hv => .inl hv), rfl⟩, ?_⟩
   rintro k σ H4 ⟨ys, zs, n', v5, rfl, sm4, q1, q2, hlen, hy, hz, hall, rfl⟩
   walk_at "wps"
   intro p5 hp5
   have q3 := upd_old (o := .lst []) q1 hp5
   have q4 := upd_old (o := .lst []) q2 hp5
   have q5 := upd_same (H := H4) (a := p5) (o := .lst [])
   have sm5 : Same H (upd H4 p5 (.lst [])) := fun b o e => upd_old (sm4 b o e) hp5
   generalize upd H4 p5 (.lst []) = H5 at *
   cases ys with
   | nil =>
    refine eqA_lists (xs := []) (ys := []) (SqL.of q3) (SqL.of q5) ?_
    walk_at "wps"
    exact q p2 zs H5 sm5 hp20 q4 (by simpa using hlen) hz (fun v hv => by rcases hall v (hin v hv) with c | c; (· cases c); (· exact c))
   | cons y0 yt =>
    obtain ⟨ds, hds⟩ := den_same (K := K) (H := H5) (n := 2) (xs := y0 :: yt) fun v hv => by
     obtain ⟨dd, hdd⟩ := hD v (hy v hv)
     exact ⟨dd, Den.same sm5 hdd⟩
    refine eqL_ne (n := 2) (by decide) (SqL.of q3) (SqL.of q5) hds .nil (fun c => by have := Paired.length hds; rw [c] at this; simp at this) ?_
    walk_at "wps"
    generalize hL : (y0 :: yt : List V) = ys at *
    have l0 : 0 < ys.length := by rw [← hL]; exact Nat.succ_pos _
    have a1 := Int.emod_nonneg n' (show (ys.length : Int) ≠ 0 by omega)
    have a2 := Int.emod_lt_of_pos n' (show 0 < (ys.length : Int) by omega)
    obtain ⟨j, ej, hj⟩ : ∃ j : Nat, n' % (ys.length : Int) = (j : Int) ∧ j < ys.length := ⟨(n' % (ys.length : Int)).toNat, by omega, by omega⟩
    refine ⟨fun σ' H' => ∃ ys zs n' v5, ys.length = (y0 :: yt).length - 1 ∧ Same H H' ∧ H' p1 = some (.lst ys) ∧ H' p2 = some (.lst zs) ∧ ys.length + zs.length ≤ m ∧ (∀ y ∈ ys, P' t y) ∧ (∀ y ∈ zs, P' t y) ∧ (∀ v ∈ xs, v ∈ ys ∨ v ∈ zs) ∧ σ' = [some (.ref d), some (.int t), some (.int n'), some (.ref p1), some (.ref p2), v5], ?_, ?_⟩
    ·rintro σ' H' ⟨ys', zs', n2, v5', e1, e2, e3, e4, e5, e6, e7, e8, rfl⟩
     have e0 : yt.length + 1 = ys.length := by rw [← hL]; rfl
     rw [hL] at e1
     exact ⟨_, by show ys'.length < _; omega, ys', zs', n2, v5', rfl, e2, e3, e4, e5, e6, e7, e8, rfl⟩
    ·exists q3
     rw [ej]
     obtain ⟨y, hyj⟩ : ∃ y, ys[j]? = some y := ⟨_, List.getElem?_eq_getElem hj⟩
     have hme : ys.eraseIdx j ⊆ ys := (List.eraseIdx_sublist ys j).subset
     refine ⟨by omega, divW_s (by omega) (by omega), tyV_list (SqL.of q4), tyV_list (SqL.of q3), p1, ys, (j : Int), j, y, rfl, rfl, q3, by omega, by omega, ?_, hyj, ?_⟩
     ·unfold seqIndex?
      show (if (decide (0 ≤ (if (j : Int) < 0 then (j : Int) + ys.length else (j : Int))) && decide ((if (j : Int) < 0 then (j : Int) + ys.length else (j : Int)) < (ys.length : Int))) = true then some (if (j : Int) < 0 then (j : Int) + ys.length else (j : Int)).toNat else none) = some j
      have hh : (if (j : Int) < 0 then (j : Int) + ys.length else (j : Int)) = j := if_neg (by omega)
      rw [hh, decide_eq_true (show (0 : Int) ≤ j by omega), decide_eq_true (show (j : Int) < ys.length by omega)]
      rfl
     ·have q6 : upd H5 p1 (.lst (ys.eraseIdx j)) p2 = some (.lst zs) := by rw [upd_ne n12.symm]; exact q4
      have el : (ys.eraseIdx j).length = ys.length - 1 := List.length_eraseIdx_of_lt hj
      exists q6
      refine ⟨by rw [sizeLine_eq]; omega, ys.eraseIdx j, zs ++ [y], _, _, ?_, ?_, ?_, rfl, by rw [List.length_append, List.length_singleton]; omega, fun v hv => hy v (hme hv), fun v hv => ?_, fun v hv => ?_, rfl⟩
      ·have e0 : yt.length + 1 = ys.length := by rw [← hL]; rfl
       omega
      ·intro b o e
       rw [upd_ne (ne_of_none e hp20), upd_ne (ne_of_none e hp10)]
       exact sm5 b o e
      ·rw [upd_ne n12]; exact upd_same
      ·rcases List.mem_append.mp hv with hv | hv
       ·exact hz v hv
       ·rw [List.mem_singleton.mp hv]; exact hy y (List.mem_of_getElem? hyj)
      ·rcases hall v hv with c | c
       ·obtain ⟨k, hk'⟩ := List.mem_iff_getElem?.mp c
        by_cases ck : k = j
        ·rw [ck, hyj] at hk'
         cases hk'
         exact .inr (List.mem_append_right _ (List.mem_singleton_self _))
        ·exact .inl (List.mem_eraseIdx_iff_getElem?.mpr ⟨k, ck, hk'⟩)
       ·exact .inr (List.mem_append_left _ c)
  ·exact h.elim
theorem InL.same {H H' : Hp} {d : Addr} {i : Int} {v : V} (h : InL H d i v) (e : Same H H') : InL H' d i v := h.keep (fun o q => e _ _ q) (fun kvs l xs _ _ q => e _ _ q)
theorem ok__law_turn (T : Txt K mg C_Meter C_Ways C_Sender C_Taker)      : FnAt P w K mg base CX0 "_law_turn" 5 ["_law_hands", "_law_lanes", "_law_numbers", "_law_turn_here", "_law_ring_here", "_law_lag"] (sp__law_turn K C_Sender C_Ways C_Meter C_Taker) := by
 refine T.d__law_turn.fn sc__law_turn bd__law_turn (fun vs H Q E h => ?_) fun f cdv A outer s H vs Q E HR h => ?_
 ·unfold sp__law_turn at h; split at h <;> first | rfl | exact h.elim
 ·unfold sp__law_turn at h
  split at h
  ·rename_i pH pL pN t r g
   refine ⟨_, (pss_cons (ps_asgQ (pv 0) (pg_tupB K (n := 4) rfl rfl (pgs_q (pg_name (i := 6) sc__law_turn.nd rfl (Or.inl rfl)) (pgs_q (pg_name (i := 7) sc__law_turn.nd rfl (Or.inl rfl)) (pgs_q (pg_name (i := 8) sc__law_turn.nd rfl (Or.inl rfl)) (pgs_q (pg_name (i := 9) sc__law_turn.nd rfl (Or.inl rfl)) pgs_nil))))))
 (pss_hold (pss_cons (ps_for PassesOwn.never rfl (pi_seqK K rfl (pe_fnQ (ok__law_due T) HR (by decide) rfl (pa_q (pe_ix (ix_B K rfl) (pv 1) pe_int (fun _ _ => rfl)) (pa_q (pv 3) (pa_q (pe_ix (ix_B K rfl) (pv 2) pe_int (fun _ _ => rfl)) pa_nil))))) (pg_name (i := 10) sc__law_turn.nd rfl (Or.inl rfl)) (pss_one (ps_exprQ (pe_mtC (pv 7) T.k_Taker (ok_Taker_take T) HR (by decide) (pa_q (pe_op op_mod (pv 10) (pv 4)) (pa_q (pe_ix (ix_B K rfl) (pv 8) (pv 10) (fun _ _ => rfl)) pa_nil))))))
 (pss_hold (pss_cons (ps_for PassesOwn.never rfl (pi_seqK K rfl (pe_fnQ (ok__law_due T) HR (by decide) rfl (pa_q (pe_ix (ix_B K rfl) (pv 1) pe_int (fun _ _ => rfl)) (pa_q (pv 3) (pa_q (pe_ix (ix_B K rfl) (pv 2) pe_int (fun _ _ => rfl)) pa_nil))))) (pg_name (i := 11) sc__law_turn.nd rfl (Or.inl rfl)) (pss_one (ps_exprQ (pe_mtC (pv 6) T.k_Sender (ok_Sender_heard T) HR (by decide) (pa_q (pe_ix (ix_B K rfl) (pv 11) pe_int (fun _ _ => rfl)) (pa_q (pe_ix (ix_B K rfl) (pv 11) pe_int (fun _ _ => rfl)) (pa_q (pe_ix (ix_B K rfl) (pv 11) pe_int (fun _ _ => rfl)) (pa_q (pv 3) pa_nil))))))))
 (pss_hold (pss_cons (ps_exprQ (pe_bm PySem.F.plainAttrs_list PySem.F.slot_list_extend PySem.F.type_list_extend mt_extend (pv 9) (pa_q (pe_mtC (pv 7) T.k_Taker (ok_Taker_read T) HR (by decide) (pa_q (pe_ix (ix_B K rfl) (pe_lst (pa_q pe_int (pa_q pe_int (pa_q pe_int (pa_q (pe_op op_mod (pe_op op_fdiv (pe_ix (ix_B K rfl) (pv 2) pe_int (fun _ _ => rfl)) pe_int) pe_int) pa_nil))))) (pe_op op_mod (pe_ix (ix_B K rfl) (pv 2) pe_int (fun _ _ => rfl)) pe_int) (fun _ _ => rfl)) pa_nil)) pa_nil)))
 (pss_hold (pss_cons (ps_setQ (i := 12) sc__law_turn.nd rfl (Or.inl rfl) (pe_mtC (pv 6) T.k_Sender (ok_Sender_go T) HR (by decide) (pa_q (pv 3) pa_nil)))
 (pss_hold (pss_cons (ps_if (PW.pt (pw_and (pt_cmpR op_notNA (pv 12) pe_non (nomark _)) (pw_and1 (pt_cmpR (op_neK K rfl HR.units) (pe_ix (ix_B K rfl) (pv 12) pe_int (fun _ _ => rfl)) pe_str (nomark _))))) (pss_one (ps_exprQ (pe_fnQ (ok__law_put_on T) HR (by decide) rfl (pa_q (pe_ix (ix_B K rfl) (pv 1) pe_int (fun _ _ => rfl)) (pa_q (pe_ix (ix_B K rfl) (pv 2) pe_int (fun _ _ => rfl)) (pa_q (pv 3) (pa_q (pv 5) (pa_q (pe_ix (ix_B K rfl) (pv 12) pe_int (fun _ _ => rfl)) pa_nil)))))))) pss_nil)
 (pss_hold (pss_one (ps_exprQ (pe_fnQ (ok__law_put_on T) HR (by decide) rfl (pa_q (pe_ix (ix_B K rfl) (pv 1) pe_int (fun _ _ => rfl)) (pa_q (pe_ix (ix_B K rfl) (pv 2) pe_int (fun _ _ => rfl)) (pa_q (pv 3) (pa_q (pv 5) (pa_q (pe_mtC0 (pv 7) T.k_Taker (ok_Taker_answer T) HR (by decide)) pa_nil)))))))))))))))))))), ?_⟩
   obtain ⟨f, z, y, F, ow, m, e, gp, s, n0, n1, n2, n3, n4, hpH, hpL, hpN, h20, oN, rfl, hg, ht, nN, L, hms, q⟩ := h
   generalize h_u1 : tHold _ = u1
   exists hpH
   rw [← h_u1, tHold]
   generalize h_u2 : tHold _ = u2
   exists hpL, hpN
   refine ⟨0, ow, _, m, L.l0, by omega, fun v hv => hv.den, fun p ys H1 sm1 hp0 hp1 _ hys hin0 => ?_⟩
   have op : ow p = none := L.od.nn hp0
   have npS : p ≠ f.pG ∧ p ≠ f.A.pt := ⟨(ne_of_none L.W.hG hp0).symm, (ne_of_none L.S.ht hp0).symm⟩
   have tl := L.J.tl
   have m1 := L.m1
   have rM : f.M < f.R := by have r1 := L.rg; have g1 := L.g1; unfold RgOk at r1; omega
   refine fo_list (xs := ys) (SqL.of hp1) (fun i σ H' => ∃ y2 F v8, Lw C_Sender C_Ways C_Meter C_Taker H' f z y2 F ow m (t - 1) e gp t s ∧ TuFr f ow ow H H' ∧ H' p = some (.lst ys) ∧ y.g ≤ y2.g ∧ (∀ k : Nat, k < i → ∀ pl, ys[k]? = some (.int pl) → pl ≤ y.g → pl < y2.g) ∧ (∀ i v, InL H f.d1 i v → InL H' f.d1 i v) ∧ σ = [some (.ref pH), some (.ref pL), some (.ref pN), some (.int t), some (.int f.R), some (.int g), some (.ref f.x), some (.ref f.tk), some (.ref f.pT), some (.ref f.pG), v8, none, none]) ⟨y, F, none, L.same sm1, TuFr.same sm1, hp1, Int.le_refl _, fun k hk => absurd hk (Nat.not_lt_zero _), fun i v h => h.same sm1, rfl⟩ (fun i σ H' _ hp => by obtain ⟨_, _, _, _, _, h, _⟩ := hp; exact SqL.of h) (fun i v σ H2 hy hp => ?_) (fun σ H2 hp => ?_)
   ·obtain ⟨y2, F2, v8, L2, t2, hp2, hgy, hdone, hI1, rfl⟩ := hp
    obtain ⟨pl, j, rfl, h1, h2, h3⟩ := hys v (List.mem_of_getElem? hy)
    have hfar := gr_far L2.rg L2.e01 (by omega) h3
    exists L2.W.hT, L2.W.T.hx
    have Pp := L2.W.p
    have gB := Pp.gB
    have o0 := Pp.o0
    have og := Pp.og
    have Bl := Pp.Bl
    have Bm := Pp.Bm
    obtain ⟨v, hv⟩ : ∃ v, z.T[pl.toNat]? = some v := ⟨_, List.getElem?_eq_getElem (by omega)⟩
    obtain ⟨vt, va, vb, rfl, hvt⟩ := L2.W.ok v (List.mem_of_getElem? hv)
    have cl : cnt F2 z.T.length ≤ z.T.length := cnt_le
    have lF := Pp.lF
    have lD := Pp.lD
    refine ⟨by omega, .ref vt, ?_, f.dx, f.pk, y2, y2.o + f.M, L2.W.T, by rw [L2.W.eR]; omega, fun i hi => ?_, by omega, by rw [L2.W.eM]; omega, by omega, ?_⟩
    ·rw [show pl = ((pl.toNat : Nat) : Int) by omega]
     exact atI_n hv
    ·obtain ⟨w, hw⟩ := Option.isSome_iff_exists.mp hi
     have := Pp.Fk i (Pp.D1 i w hw).2.1
     omega
    rw [L2.W.eR, L2.W.eM]
    by_cases cs : pl < y2.g
    ·rw [ring_down cs (by omega)]
     refine .inl ⟨by omega, fun pf l H3 sm hpf hl hpf1 hl1 => ?_⟩
     refine ⟨y2, F2, _, L2.same sm, t2.trans (TuFr.same sm), sm _ _ hp2, hgy, fun k hk pl' hpl' hle => ?_, fun i v h => (hI1 i v h).same sm, rfl⟩
     by_cases ck : k = i
     ·rw [ck, hy] at hpl'
      cases hpl'
      exact cs
     ·exact hdone k (by omega) pl' hpl' hle
    ·rw [ring_up (by omega) (by omega)]
     refine .inr ⟨by omega, fun D' eD n pf l H3 hr hpf hl npl fr T3 hl1 hpf1 => ?_⟩
     rw [show y2.g + (pl - y2.g) = pl by omega] at eD
     obtain ⟨P3, ev⟩ := Pp.take (by omega) h1.2 hv eD hr
     rw [L2.W.eR, L2.W.eM] at P3
     have lst : ∀ b l, H2 b = some (.lst l) → H3 b = some (.lst l) := fun b l q => fr b _ q (L2.nT q (by simp)).1 (ne_of q L2.W.T.hD (by simp))
     have tup : ∀ b l, H2 b = some (.tup l) → H3 b = some (.tup l) := fun b l q => fr b _ q (L2.nT q (by simp)).1 (ne_of q L2.W.T.hD (by simp))
     have W3 : Tw C_Taker H3 f.tk f.dx f.pk f.pT f.pG ⟨f.R, f.M, y2.g + n, y2.o, D'⟩ z.T (putK F2 (ik pl) (.bl true)) f.R f.M z.t := ⟨T3, lst _ _ L2.W.hT, lst _ _ L2.W.hG, rfl, rfl, fun w hw => by obtain ⟨t, a, b, e1, e2⟩ := L2.W.ok w hw; exact ⟨t, a, b, e1, tup _ _ e2⟩, L2.W.nTG, P3⟩
     obtain ⟨L3, t3, hI3⟩ := L2.comes fr W3 rfl (by show y2.g ≤ y2.g + n; omega) (fun j hj => by rw [knw_put, hj, Bool.or_true])
     have hn1 : pl = y2.g → 0 < n := fun c => by
      cases n with
      | succ n => exact Nat.succ_pos _
      | zero =>
       exfalso
       have h5 := hr.2
       rw [show y2.g + ((0 : Nat) : Int) = pl by omega, eD] at h5
       cases qq : valV y2.D (ik pl) with
       | some w => rw [qq, if_pos (show (some w).isSome = true from rfl), qq] at h5; cases h5
       | none => rw [qq, if_neg (by simp), valV_put, if_pos rfl] at h5; cases h5
     refine ⟨_, _, _, L3, t2.trans t3, (t3.2 p ys hp2 npS.1 npS.2 op).1, by show y.g ≤ y2.g + n; omega, fun k hk pl' hpl' hle => ?_, fun i v h => hI3 _ _ (hI1 i v h), rfl⟩
     show pl' < y2.g + n
     by_cases ck : k = i
     ·rw [ck, hy] at hpl'
      cases hpl'
      have := hn1 (by omega)
      omega
     ·have := hdone k (by omega) pl' hpl' hle
      omega
   obtain ⟨y2, F2, v8, L2, t2, _, hgy, hdone, hI1, rfl⟩ := hp
   have r2 : ∀ pl, InL H f.d0 t (.int pl) → pl ≤ y.g → pl < y2.g := fun pl hpl hle => by
    obtain ⟨k, hk⟩ := List.mem_iff_getElem?.mp (hin0 _ hpl)
    exact hdone k (List.getElem?_eq_some_iff.mp hk).1 pl hk hle
   clear hp1 hys op npS hin0 hdone
   have hpL2 := t2.1 _ _ hpL
   obtain ⟨hpN2, _⟩ := t2.2 _ _ hpN nN.1 nN.2 oN
   rw [← h_u2, tHold]
   generalize h_u3 : tHold _ = u3
   exists hpL2, hpN2
   refine ⟨1, ow, _, m, L2.l1, by omega, fun v hv => hv.den, fun p5 zs H5 sm5 hp50 hp5 _ hzs hin1 => ?_⟩
   have op : ow p5 = none := L2.od.nn hp50
   have npS : p5 ≠ f.pG ∧ p5 ≠ f.A.pt := ⟨(ne_of_none L2.W.hG hp50).symm, (ne_of_none L2.S.ht hp50).symm⟩
   have tfr : TuFr f ow ow H H5 := t2.trans (TuFr.same sm5)
   refine fo_list (xs := zs) (SqL.of hp5) (fun i σ H' => ∃ z2 v11, Lw C_Sender C_Ways C_Meter C_Taker H' f z2 y2 F2 ow m (t - 1) e gp t s ∧ z2.t = z.t ∧ z2.T = z.T ∧ z.b ≤ z2.b ∧ (z2.b = z.b → z2.clk = z.clk) ∧ (∀ k : Nat, k < i → ∀ qa tq, zs[k]? = some (.ref qa) → H2 qa = some (.tup [.int (gp % f.R), .int f.M, .ref tq]) → gp ≤ z2.b ∧ gp + f.M ≤ z2.e) ∧ TuFr f ow ow H H' ∧ TuFr f ow ow H2 H' ∧ H' p5 = some (.lst zs) ∧ σ = [some (.ref pH), some (.ref pL), some (.ref pN), some (.int t), some (.int f.R), some (.int g), some (.ref f.x), some (.ref f.tk), some (.ref f.pT), some (.ref f.pG), v8, v11, none]) ⟨z, none, L2.same sm5, rfl, rfl, Int.le_refl _, fun _ => rfl, fun k hk => absurd hk (Nat.not_lt_zero _), tfr, TuFr.same sm5, hp5, rfl⟩ (fun i σ H' _ hp => by obtain ⟨_, _, _, _, _, _, _, _, _, _, h, _⟩ := hp; exact SqL.of h) (fun i v σ H6 hy hp => ?_) (fun σ H6 hp => ?_)
   ·obtain ⟨z6, v11, L6, ez, eT, hb6, hc6, hd6, t6, t62, hp6, rfl⟩ := hp
    obtain ⟨qa, tq, a, c, j, hs, rfl, k2, k3, k4, k5, k6, k7⟩ := hzs v (List.mem_of_getElem? hy)
    have k2' := t62.1 _ _ k2
    have k3' := t62.1 _ _ k3
    have hS6 := L6.S
    have J6 := L6.J
    have tl6 := J6.tl
    have tm6 := J6.tm
    have oo := L6.W.p.og
    exists k2', hS6.hx
    refine ⟨f.A, z6, hs, hS6, J6.B, by rw [J6.R]; omega, k3', k5.2.1, k5.1, fun k hk => (k5.2.2 k hk).1, J6.tqq2 ht, ?_, by omega, J6.k, fun pr H7 hpr fr7 out => ?_⟩
    ·have h1 := J6.s1
     have h2 := cnt_le (D := z6.Kn) (t := z6.t.toNat)
     omega
    have hfar := gr_far (t := z.t) (X := a) L6.rg L6.e01 (n := t - 1) (j := j) (by omega) k7
    have bg6 := L6.bg
    have gg6 := L6.gg
    have gB6 := L6.W.p.gB
    have newest : ∀ tq', H2 qa = some (.tup [.int (gp % f.R), .int f.M, .ref tq']) → a = gp ∧ c = a := fun tq' e => by
     rw [k2] at e
     have e1 := Option.some.inj e
     simp only [HO.tup.injEq, List.cons.injEq, V.int.injEq, V.ref.injEq] at e1
     exact ⟨mod_one k4.2.2.1 (by omega) hfar m1.1 e1.1, by omega⟩
    have b06 := J6.B.b0
    have bt6 := J6.B.bt
    have eb6 := L6.eb
    have te6 := J6.te
    rcases out with ⟨c1, sm, hl⟩ | ⟨c1, S7, hl⟩
    ·refine ⟨z6, _, L6.same sm, ez, eT, hb6, hc6, fun k hk qa' tq' hq' e' => ?_, t6.trans (TuFr.same sm), t62.trans (TuFr.same sm), sm _ _ hp6, rfl⟩
     by_cases ck : k = i
     ·exfalso
      rw [ck, hy] at hq'
      cases hq'
      obtain ⟨ea, ec⟩ := newest tq' e'
      unfold far' at c1
      rw [J6.R, ring_up (by omega) (by omega)] at c1
      omega
     ·exact hd6 k (by omega) qa' tq' hq' e'
    ·have L6' : Lw C_Sender C_Ways C_Meter C_Taker H6 f z6 y2 F2 ow m (t - 1) e gp (t - 1 + 1) s := by rw [show t - 1 + 1 = t by omega]; exact L6
     have far0 : 0 ≤ far' z6 (a % f.R) := Int.emod_nonneg _ (by rw [J6.R]; omega)
     have eb7 : (hrd z6 (a % f.R) (c + f.M - a) hs t).b = z6.b + far' z6 (a % f.R) := rfl
     have ek7 : (hrd z6 (a % f.R) (c + f.M - a) hs t).clk = if 0 < far' z6 (a % f.R) then (if z6.b + far' z6 (a % f.R) < z6.t then .int (t + (mall z6 t (fsh z6 (a % f.R) hs)).1) else .non) else z6.clk := rfl
     obtain ⟨L7, t7, ea, ee, hba, hee⟩ := L6'.heard (j := j) k4 k5 (by omega) (by rw [ez]; exact k7) fr7 S7 c1 (hrd_k J6.ck) (fun hlt => by
      rw [ek7]
      by_cases cf : 0 < far' z6 (a % f.R)
      ·rw [if_pos cf]
       have hlt' : z6.b + far' z6 (a % f.R) < z6.t := hlt
       rw [if_pos hlt']
       have hw : (mall z6 t (fsh z6 (a % f.R) hs)).1 ≤ z6.L := S7.ws.2.1.2
       rw [L6.eL] at hw
       exact ⟨_, rfl, by omega⟩
      ·rw [if_neg cf]
       have hlt' : z6.b + far' z6 (a % f.R) < z6.t := hlt
       obtain ⟨i', q1, q2⟩ := L6.ck (by omega)
       exact ⟨i', q1, by omega⟩)
     rw [show t - 1 + 1 = t by omega] at L7
     refine ⟨_, _, L7, ez, eT, by omega, fun hbz => ?_, fun k hk qa' tq' hq' e' => ?_, t6.trans t7, t62.trans t7, (t7.2 p5 zs hp6 npS.1 npS.2 op).1, rfl⟩
     ·rw [ek7, if_neg (by omega)]
      exact hc6 (by omega)
     ·by_cases ck : k = i
      ·rw [ck, hy] at hq'
       cases hq'
       obtain ⟨ea', ec'⟩ := newest tq' e'
       exact ⟨by omega, by omega⟩
      ·have := hd6 k (by omega) qa' tq' hq' e'
       exact ⟨by omega, by omega⟩
   obtain ⟨z6, v11, L6, ez6, eT6, hb6, hc6, hd6, t6, _, _, rfl⟩ := hp
   have r3 : ∀ qa tq, InL H f.d1 t (.ref qa) → H qa = some (.tup [.int (gp % f.R), .int f.M, .ref tq]) → gp ≤ z6.b ∧ gp + f.M ≤ z6.e := fun qa tq hqa e => by
    obtain ⟨k, hk⟩ := List.mem_iff_getElem?.mp (hin1 _ (hI1 _ _ hqa))
    exact hd6 k (List.getElem?_eq_some_iff.mp hk).1 qa tq hk (t2.1 _ _ e)
   clear hp5 hzs op npS tfr hin1 hd6 hI1
   have hpN6 := (t6.2 _ _ hpN nN.1 nN.2 oN).1
   rw [← h_u3, tHold]
   generalize h_u4 : tHold _ = u4
   exists hpN6, L6.W.hG, L6.W.T.hx
   refine ⟨tyV_list (SqL.of L6.W.hG), fun pm hpm => ?_⟩
   have sm7 := same_upd (o := .lst [V.int 0, V.int 1, V.int 1000, V.int (n2 / 4 % 18)]) hpm
   have hm7 := upd_same (H := H6) (a := pm) (o := .lst [V.int 0, V.int 1, V.int 1000, V.int (n2 / 4 % 18)])
   generalize upd H6 pm (.lst [V.int 0, V.int 1, V.int 1000, V.int (n2 / 4 % 18)]) = H7 at *
   have L7 := L6.same sm7
   have hpN7 := sm7 _ _ hpN6
   have t7 : TuFr f ow ow H H7 := t6.trans (TuFr.same sm7)
   exists hpN7, hm7
   obtain ⟨mm, em, hmm, hm2⟩ : ∃ mm : Int, atI [V.int 0, V.int 1, V.int 1000, V.int (n2 / 4 % 18)] (n2 % 4) = some (.int mm) ∧ (0 ≤ mm ∧ mm ≤ 1000) ∧ (n2 = 2 → mm = 1000) := by
    have h4 : n2 % 4 = 0 ∨ n2 % 4 = 1 ∨ n2 % 4 = 2 ∨ n2 % 4 = 3 := by omega
    rcases h4 with e | e | e | e <;> rw [e]
    ·exact ⟨_, atI_0, by omega, by omega⟩
    ·exact ⟨_, atI_1, by omega, by omega⟩
    ·exact ⟨_, atI_2, by omega, by omega⟩
    ·exact ⟨_, atI_3, by omega, by omega⟩
   refine ⟨_, em, ?_⟩
   have Pp := L7.W.p
   have o0 := Pp.o0
   have og := Pp.og
   have gB := Pp.gB
   have Bl := Pp.Bl
   have Bm := Pp.Bm
   have tl7 := L7.J.tl
   refine ⟨f.dx, f.pk, y2, L7.W.T, ⟨hmm.1, hmm.2, o0, og, by omega⟩, fun i h1 h2 => Pp.D2 i h1 (Pp.Fa i (by omega) h2), fun n p8 D' H8 en hp80 hD' hlD fr8 T8 hp8 => ?_⟩
   have hn : y2.o + n ≤ y2.g := by rw [en]; split <;> omega
   have r5 : n2 = 2 → y2.o + n = y2.g := fun c => by have := hm2 c; rw [en]; split <;> omega
   obtain ⟨P8, ev⟩ := Pp.read hn hD' hlD.length_le
   rw [ev] at hp8
   have hG8 := fr8 _ _ L7.W.hG (ne_of L7.W.hG L7.W.T.hx (by simp)) (ne_of L7.W.hG L7.W.T.hD (by simp))
   have eG : z6.T.take y2.o.toNat ++ (z6.T.drop y2.o.toNat).take n = z6.T.take (y2.o + n).toNat := by
    rw [show (y2.o + (n : Int)).toNat = y2.o.toNat + n by omega, List.take_add]
   refine ⟨f.pG, p8, _, _, rfl, rfl, hG8, hp8, ?_, ?_⟩
   ·rw [← List.length_append, eG, List.length_take, sizeLine_eq]; omega
   rw [eG]
   have T9 : TkAt C_Taker (upd H8 f.pG (.lst (z6.T.take (y2.o + n).toNat))) f.tk f.dx f.pk ⟨y2.R, y2.M, y2.g, y2.o + n, D'⟩ := ⟨by rw [upd_ne (ne_of T8.hx hG8 (by simp))]; exact T8.hx, by rw [upd_ne (ne_of T8.hD hG8 (by simp))]; exact T8.hD⟩
   obtain ⟨L9, t9⟩ := L7.read (H' := upd H8 f.pG (.lst (z6.T.take (y2.o + n).toNat))) hn hD' hlD.length_le rfl (fun b u e n1 n2 n3 => by rw [upd_ne n3]; exact fr8 b u e n1 n2) T9 upd_same
   replace t9 := t7.trans t9
   generalize upd H8 f.pG (.lst (z6.T.take (y2.o + n).toNat)) = H9 at *
   obtain ⟨y9, hy9, ey9, eo9⟩ : ∃ y9 : Tk, (⟨y2.R, y2.M, y2.g, y2.o + n, D'⟩ : Tk) = y9 ∧ y9.g = y2.g ∧ y9.o = y2.o + n := ⟨_, rfl, rfl, rfl⟩
   rw [hy9] at L9
   clear hp8 hG8 T8 T9 fr8 hm7 hpN7 hpN6 L7 sm7
   have J9 := L9.J
   rw [← h_u4, tHold]
   generalize h_u5 : tHold _ = u5
   exists L9.S.hx
   refine ⟨f.A, z6, L9.S, J9.B, J9.ck, by have := J9.s3; omega, by have := J9.s2; omega, fun v H11 z11 fr11 S11 ox => ?_⟩
   obtain ⟨t11, eT11, e11, L11, hv⟩ := L9.go fr11 S11 (ox.gk J9.ck) (ox.r L9.S.ms.2.1) (ox.ck L9.S.ws.2.1.2 L9.eL L9.ck)
   have r8 : 1 ≤ z6.wi := L9.S.ms.2.1
   have b9 := L9.bg
   replace t11 := t9.trans t11
   rw [show t - 1 + 1 = t by omega] at L11
   have hpL11 := t11.1 _ _ hpL
   have hpN11 := (t11.2 _ _ hpN nN.1 nN.2 oN).1
   clear fr11 S11 L9 J9
   rw [← h_u5, tHold]
   generalize h_u6 : tHold _ = u6
   have tail : ∀ ow' H' m', m' ≤ m + 3 → Lw C_Sender C_Ways C_Meter C_Taker H' f z11 y9 F2 ow' m' t e11 y9.g t (s + 1) → TuFr f ow ow' H H' → (n3 = 1 → g = 1 → ∀ p w u, v = .ref p → H11 p = some (.tup [.str w, .int u]) → InL H' f.d0 (t + 1) (.int u)) → u6 { nx := fun _ H' => Q .non H', rt := Q } [some (.ref pH), some (.ref pL), some (.ref pN), some (.int t), some (.int f.R), some (.int g), some (.ref f.x), some (.ref f.tk), some (.ref f.pT), some (.ref f.pG), v8, v11, some v] H' := by
    intro ow' H' m' hm' L' t' hI0
    have hpL' := t'.1 _ _ hpL
    have hpN' := (t'.2 _ _ hpN nN.1 nN.2 oN).1
    have Pq := L'.W.p
    have q1 := Pq.o0
    have q2 := Pq.og
    have q3 := Pq.gB
    have q4 := Pq.Bm
    rw [← h_u6, tHold]
    exists hpL', hpN', L'.W.T.hx
    refine ⟨f.dx, f.pk, y9, L'.W.T, by rw [L'.W.eR]; omega, by rw [L'.W.eM]; omega, fun pa pt hs H12 sm12 ehs hpa hpt hpt1 hpa1 => ?_⟩
    rw [L'.W.eR, L'.W.eM] at hpa1
    rw [L'.W.eM] at ehs
    have L12 := L'.same sm12
    have g1 := L12.g1
    refine ⟨1, ow', _, m', L12.l1, L12.od, by omega, by omega, fun i h1 h2 => ?_, fun ow'' H13 fr13 od13 l13 hI13 => ?_⟩
    ·obtain ⟨k1, k2, k3⟩ := heldL_ok (D := y9.D) (g := y9.g) (k := (y9.o + f.M - y9.g - 1).toNat) (by omega)
     rw [← ehs] at k1 k2 k3
     refine ⟨pa, pt, y9.g, y9.o, t, hs, rfl, hpa1, hpt1, ⟨by omega, by omega, Int.le_refl _, Int.le_refl _⟩, ⟨k1, k2, fun k hk => ⟨(k3 k hk).1, ?_⟩⟩, ⟨h1, by omega⟩, ?_⟩
     ·obtain ⟨w, hw⟩ := Option.isSome_iff_exists.mp (k3 k hk).2
      exact (Pq.D1 _ w hw).2.1
     ·unfold Gr
      have := L12.e01
      omega
    ·have l0' := L12.l0
     obtain ⟨L13, t13⟩ := L12.put1 fr13 od13 l13
     refine q z6 z11 y9 F2 ow'' e11 v H9 H11 H13 ((t'.trans (TuFr.same sm12)).trans t13) (L13.more (by omega)) (eT11.trans eT6) ⟨by omega, fun pl hpl hle => by have := r2 pl hpl hle; omega, r3, ⟨hb6, ez6, eT6, hc6, by omega⟩, fun c => by have := r5 c; omega, ox, fun c3 cg p w u e1 e2 => ?_, fun c4 cg => ⟨pa, pt, hI13 (by omega) cg, t13.1 _ _ hpa1⟩, r8⟩
     have i1 := (hI0 c3 cg p w u e1 e2).same sm12
     obtain ⟨kv1, hd1, _⟩ := L12.l1
     exact i1.keep (fun o qq => by obtain ⟨kv0, hd0, _⟩ := l0'; exact fr13.1 _ _ qq L12.a.dd (fun i => by rw [L12.od.no hd0 (by simp)]; simp)) (fun kvs l xs a1 a2 a3 => fr13.1 _ _ a3 (ne_of a3 hd1 (by simp)) (fun i => by rw [l0'.own a1 a2]; simp))
   rcases hv with rfl | ⟨pg, rfl, hpg0, hpg | ⟨w, u, hpg, hw, hu, hgr⟩⟩
   ·walk_at "wps"
    exact tail ow _ m (by omega) L11 t11 (fun _ _ p w u e => by cases e)
   ·exists hpg
    exact tail ow _ m (by omega) L11 t11 (fun _ _ p w u e q => by cases e; rw [hpg] at q; cases q)
   ·exists hpg
    rw [if_pos (by rcases hw with rfl | rfl <;> decide)]
    exists hpL11, hpN11, hpg
    have g1 := L11.g1
    refine ⟨0, ow, _, m, L11.l0, L11.od, by omega, by omega, fun i h1 h2 => ⟨u, t, rfl, hu, ⟨h1, by omega⟩, by rw [Int.sub_self]; exact hgr⟩, fun ow' H' fr' od' l' hI' => ?_⟩
    obtain ⟨L', t'⟩ := L11.put0 fr' od' l'
    refine tail ow' H' (m + 3) (Nat.le_refl _) L' (t11.trans t') (fun c3 cg p w' u' e q => ?_)
    cases e
    rw [hpg] at q
    cases q
    exact hI' (by omega) cg
  ·exact h.elim
noncomputable def Pg (z : Sd) (y : Tk) (H : Hp) (f : Fx) (n t τ : Int) : Prop :=
 (z.b = n ∧ 0 ≤ τ) ∨ (z.b < n ∧ ((z.b < y.g ∧ 1 ≤ τ) ∨ (y.g = z.b ∧ z.b < z.t ∧ ((InL H f.d0 (t + 1) (.int z.b) ∧ 2 ≤ τ) ∨ (3 ≤ τ ∧ ∃ i, z.clk = .int i ∧ i - t + 2 ≤ τ))) ∨ (y.g = z.b ∧ z.b = z.t ∧ 3 ≤ τ)))
structure PB (z : Sd) (y : Tk) (H : Hp) (f : Fx) (n t τ : Int) : Prop where
 o : y.o = y.g
 ans : ∃ q tq, InL H f.d1 (t + 1) (.ref q) ∧ H q = some (.tup [.int (y.g % f.R), .int f.M, .ref tq])
 pg : Pg z y H f n t τ
theorem Pg.same {z : Sd} {y : Tk} {H H' : Hp} {f : Fx} {n t τ : Int} (h : Pg z y H f n t τ) (e : Same H H') : Pg z y H' f n t τ := by
 rcases h with h | ⟨h0, h | ⟨h1, h2, ⟨h3, h4⟩ | h3⟩ | h⟩
 ·exact .inl h
 ·exact .inr ⟨h0, .inl h⟩
 ·exact .inr ⟨h0, .inr (.inl ⟨h1, h2, .inl ⟨h3.same e, h4⟩⟩)⟩
 ·exact .inr ⟨h0, .inr (.inl ⟨h1, h2, .inr h3⟩)⟩
 ·exact .inr ⟨h0, .inr (.inr h)⟩
theorem PB.same {z : Sd} {y : Tk} {H H' : Hp} {f : Fx} {n t τ : Int} (h : PB z y H f n t τ) (e : Same H H') : PB z y H' f n t τ := by
 obtain ⟨q, tq, a1, a2⟩ := h.ans
 exact ⟨h.o, ⟨q, tq, a1.same e, e _ _ a2⟩, h.pg.same e⟩
theorem TurnR.any {CS CW CM CT : Addr} {f : Fx} {H Ha Hb H' : Hp} {z z1 z' : Sd} {y y' : Tk} {gp t : Int} {v : V} {F' : List (Key × V)} {ow' : Own} {m' s' : Nat} {e' : Int} (r : TurnR f H z y gp t 1 2 1 1 z1 z' y' v Ha Hb H') (L : Lw CS CW CM CT H' f z' y' F' ow' m' t e' y'.g t s') (hL : 2 ≤ f.L) : ∃ τ, τ ≤ f.L + 2 ∧ PB z' y' H' f z'.T.length t τ := by
 have eo := r.r5 rfl
 obtain ⟨q, tq, a1, a2⟩ := r.r7 rfl rfl
 rw [eo, show y'.g + f.M - y'.g = f.M by omega] at a2
 have bg := L.bg
 have bt := L.J.B.bt
 have tm := L.J.tm
 by_cases c1 : z'.b = z'.T.length
 ·exact ⟨0, by omega, eo, ⟨q, tq, a1, a2⟩, .inl ⟨c1, Int.le_refl _⟩⟩
 ·have c1' : z'.b < z'.T.length := by omega
  by_cases c2 : z'.b < y'.g
  ·exact ⟨1, by omega, eo, ⟨q, tq, a1, a2⟩, .inr ⟨c1', .inl ⟨c2, Int.le_refl _⟩⟩⟩
  ·by_cases c3 : z'.b < z'.t
   ·obtain ⟨i, i1, i2⟩ := L.ck c3
    exact ⟨f.L + 2, Int.le_refl _, eo, ⟨q, tq, a1, a2⟩, .inr ⟨c1', .inr (.inl ⟨by omega, c3, .inr ⟨by omega, i, i1, by omega⟩⟩)⟩⟩
   ·exact ⟨3, by omega, eo, ⟨q, tq, a1, a2⟩, .inr ⟨c1', .inr (.inr ⟨by omega, by omega, Int.le_refl _⟩)⟩⟩
theorem TurnR.wait {CS CW CM CT : Addr} {f : Fx} {H Ha Hb H' : Hp} {z z1 z' : Sd} {y y' : Tk} {t τ : Int} {v : V} {F' : List (Key × V)} {ow' : Own} {m' s' : Nat} {e' : Int} (r : TurnR f H z y y.g (t + 1) 1 2 1 1 z1 z' y' v Ha Hb H') (L : Lw CS CW CM CT H' f z' y' F' ow' m' (t + 1) e' y'.g (t + 1) s') (eT : z'.T = z.T) (ckz : z.clk = .non ∨ ∃ i, z.clk = .int i) (p : PB z y H f z.T.length t τ) (hb : z.b < z.T.length) (bg0 : z.b ≤ y.g) (he : z'.b = z.b) : ∃ τ', τ' ≤ τ - 1 ∧ PB z' y' H' f z'.T.length (t + 1) τ' := by
 have eo := r.r5 rfl
 obtain ⟨q, tq, a1, a2⟩ := r.r7 rfl rfl
 rw [eo, show y'.g + f.M - y'.g = f.M by omega] at a2
 obtain ⟨q0, tq0, b1, b2⟩ := p.ans
 obtain ⟨r3, r3e⟩ := r.r3 q0 tq0 b1 b2
 obtain ⟨r4, rt, rT, rc, rg⟩ := r.r4
 have r8 := r.r8
 have bg := L.bg
 have m1 := L.m1
 have ckz1 : z1.b = z.b → (z1.clk = .non ∨ ∃ i, z1.clk = .int i) := fun c => by rw [rc c]; exact ckz
 have eb : z'.b = z1.b := by
  rcases r.r6 with ⟨_, _, e, _⟩ | ⟨_, ⟨_, e, _⟩ | ⟨_, ⟨_, e, _⟩ | ⟨_, ⟨_, _, ⟨_, e, _⟩ | ⟨i, _, _, e, _⟩ | ⟨i, _, _, e, _⟩⟩ | ⟨_, e, _⟩⟩⟩⟩ <;> rw [e] <;> rfl
 have e1 : z1.b = z.b := by omega
 have eg : y.g = z.b := by omega
 have ck1 := rc e1
 have fin : ∀ τ', τ' ≤ τ - 1 → Pg z' y' H' f z'.T.length (t + 1) τ' → ∃ τ', τ' ≤ τ - 1 ∧ PB z' y' H' f z'.T.length (t + 1) τ' := fun τ' h1 h2 => ⟨τ', h1, eo, ⟨q, tq, a1, a2⟩, h2⟩
 have hb' : z'.b < z'.T.length := by rw [eT, he]; exact hb
 rcases p.pg with ⟨h0, _⟩ | ⟨_, h | h⟩
 ·omega
 ·omega
 have τ2 : 2 ≤ τ := by rcases h with ⟨_, _, ⟨_, h⟩ | ⟨h, _⟩⟩ | ⟨_, _, h⟩ <;> omega
 by_cases c2 : z'.b < y'.g
 ·exact fin 1 (by omega) (.inr ⟨hb', .inl ⟨c2, Int.le_refl _⟩⟩)
 have eg' : y'.g = z'.b := by omega
 have sent : ∀ p w, v = .ref p → Hb p = some (.tup [.str w, .int z1.b]) → z'.b < z'.t → 3 ≤ τ → ∃ τ', τ' ≤ τ - 1 ∧ PB z' y' H' f z'.T.length (t + 1) τ' := fun p w h1 h2 h3 h4 => fin 2 (by omega) (.inr ⟨hb', .inr (.inl ⟨eg', h3, .inl ⟨by rw [eb]; exact r.r6' rfl rfl p w _ h1 h2, Int.le_refl _⟩⟩)⟩)
 rcases h with ⟨_, hlt, ⟨hI, _⟩ | ⟨h3, i, hi, hτ⟩⟩ | ⟨_, hbt, h3⟩
 ·have := r.r2 _ hI (by omega)
  omega
 ·have hlt1 : z1.b < z1.t := by omega
  rw [hi] at ck1
  have stay : (z1.b < z1.t → outC z1.clk (t + 1) = false) → z'.clk = z1.clk → z'.b < z'.t → ∃ τ', τ' ≤ τ - 1 ∧ PB z' y' H' f z'.T.length (t + 1) τ' := fun ho hc h4 => by
   have ho' := ho hlt1
   rw [ck1] at ho'
   have : t + 1 < i := by
    unfold outC at ho'
    have := of_decide_eq_false ho'
    omega
   exact fin (τ - 1) (Int.le_refl _) (.inr ⟨hb', .inr (.inl ⟨eg', h4, .inr ⟨by omega, i, by rw [hc, ck1], by omega⟩⟩)⟩)
  rcases r.r6 with ⟨_, _, e, p, h1, _, h2⟩ | ⟨ho, ⟨_, e, p, h1, _, h2⟩ | ⟨_, ⟨_, e, p, h1, _, h2⟩ | ⟨_, ⟨_, hbt, _⟩ | ⟨_, e, _⟩⟩⟩⟩
  ·exact sent p _ h1 h2 (by rw [e]; exact hlt1) h3
  ·exact sent p _ h1 h2 (by rw [e]; exact hlt1) h3
  ·refine stay ho ?_ (by rw [e]; show z1.b < z1.t + 1; omega)
   rw [e]
   show (if z1.b = z1.t then _ else z1.clk) = z1.clk
   rw [if_neg (by omega)]
  ·omega
  ·exact stay ho (by rw [e]) (by rw [e]; exact hlt1)
 ·have hbt1 : z1.b = z1.t := by omega
  have k0 : kab z1 = 0 := by have := kab_le (z := z1); omega
  have hl1 : (z1.T.length : Int) = z.T.length := by rw [rT]
  rcases r.r6 with ⟨hh, _⟩ | ⟨ho, ⟨hh, _⟩ | ⟨_, ⟨_, e, p, h1, _, h2⟩ | ⟨hn, _⟩⟩⟩
  ·omega
  ·unfold hryD at hh
   rw [decide_eq_false (by omega)] at hh
   cases hh
  ·rw [← hbt1] at h2
   exact sent p _ h1 h2 (by rw [e]; show z1.b < z1.t + 1; omega) h3
  ·exfalso
   unfold newM at hn
   rw [decide_eq_true (by omega), decide_eq_true (by omega), decide_eq_true (by omega)] at hn
   cases hn
theorem TurnR.mono {f : Fx} {H Ha Hb H' : Hp} {z z1 z' : Sd} {y y' : Tk} {gp t g n2 n3 n4 : Int} {v : V} (r : TurnR f H z y gp t g n2 n3 n4 z1 z' y' v Ha Hb H') : z.b ≤ z'.b := by
 have h := r.r4.1
 have eb : z'.b = z1.b := by
  rcases r.r6 with ⟨_, _, e, _⟩ | ⟨_, ⟨_, e, _⟩ | ⟨_, ⟨_, e, _⟩ | ⟨_, ⟨_, _, ⟨_, e, _⟩ | ⟨i, _, _, e, _⟩ | ⟨i, _, _, e, _⟩⟩ | ⟨_, e, _⟩⟩⟩⟩ <;> rw [e] <;> rfl
 omega
theorem Pg.t0 {z : Sd} {y : Tk} {H : Hp} {f : Fx} {n t τ : Int} (h : Pg z y H f n t τ) : 0 ≤ τ := by
 rcases h with h | ⟨h0, h | ⟨h1, h2, ⟨h3, h4⟩ | h3⟩ | h⟩ <;> omega
theorem wide {N M L G b τ : Int} (hN : 0 ≤ N) (hM : 1 ≤ M) (hL : 2 ≤ L) (hG : 1 ≤ G) (hb : 0 ≤ b) (hτ : τ ≤ L + 2) : 1 + (N - b) * (L + 3) + τ ≤ (4 * N + M + 2) * (L + G + 4) := by
 have h1 : 0 ≤ b * (L + 3) := Int.mul_nonneg hb (by omega)
 have h2 : (N - b) * (L + 3) = N * (L + 3) - b * (L + 3) := Int.sub_mul _ _ _
 have h3 : (4 * N + M + 2) * (L + G + 4) = 4 * (N * (L + 3)) + 4 * (N * (G + 1)) + M * (L + G + 4) + 2 * (L + G + 4) := by
  have e : L + G + 4 = (L + 3) + (G + 1) := by omega
  rw [Int.add_mul, Int.add_mul, e, Int.mul_assoc, Int.mul_add N]
  omega
 have h4 : 0 ≤ N * (L + 3) := Int.mul_nonneg hN (by omega)
 have h5 : 0 ≤ N * (G + 1) := Int.mul_nonneg hN (by omega)
 have h6 : 0 ≤ M * (L + G + 4) := Int.mul_nonneg (by omega) (by omega)
 omega
theorem step_le {N b b' K τ τ' x : Int} (hb : b < b') (hN : b' ≤ N) (hK : 0 ≤ K) (hτ : 0 ≤ τ) (hτ' : τ' ≤ K - 1) (h : x + (N - b) * K + τ ≤ 0) : x + 1 + (N - b') * K + τ' ≤ 0 := by
 have h1 : (N - b) * K = (N - b') * K + (b' - b) * K := by rw [← Int.add_mul]; congr 1; omega
 have h2 : K ≤ (b' - b) * K := by
  have := Int.mul_le_mul_of_nonneg_right (show (1 : Int) ≤ b' - b by omega) hK
  omega
 omega
theorem gen_ends {u : TS} {D : Ends} {σ : St} {H : Hp} (h : ∀ D', D' = D → u D' σ H) : u D σ H := h D rfl
theorem cut40 {ns : List Int} : ∃ ms : List Int, cutV (ns.map V.int) (some 3) (some 43) = ms.map V.int ∧ ms.length ≤ 40 := by
 refine ⟨_, cut_ints, ?_⟩
 have e : HT.sIx ns.length 0 (some 3) = min 3 ns.length := HT.sIx_nat ns.length 0 3
 have e2 : HT.sIx ns.length ns.length (some 43) = min 43 ns.length := HT.sIx_nat ns.length ns.length 43
 rw [List.length_take, List.length_drop, e, e2]
 omega
theorem ok__law_alike (T : Txt K mg C_Meter C_Ways C_Sender C_Taker)  : FnAt P w K mg base CX0 "_law_alike" 1 ["_law_found", "_law_due_here"] (sp__law_alike K) := by
 refine T.d__law_alike.fn sc__law_alike bd__law_alike (fun vs H Q E h => ?_) fun f cdv A outer s H vs Q E HR h => ?_
 ·unfold sp__law_alike at h; split at h <;> first | rfl | exact h.elim
 ·unfold sp__law_alike at h
  split at h
  ·rename_i p q
   refine ⟨_, (pss_one (ps_ret (pe_and (pe_callBQ (call_isiB K rfl) (by rfl) T.b_isinstance bt_isinstance (pa_q (pv 0) (pa_q (pe_ty rfl T.b_list bt_list) pa_nil))) (pe_one (pe_cmpR (op_eqK K rfl HR.units) (pv 0) (pv 1) (nomark _)))))), ?_⟩
   obtain ⟨xs, h1, h2, hd, qq⟩ := h
   exists h1
   exact eqA_same (n := 1) (by decide) (SqL.of h1) (SqL.of h2) hd qq
  ·exact h.elim
theorem ok_law (T : Txt K mg C_Meter C_Ways C_Sender C_Taker) : FnAt P w K mg base CX0 "law" 6 ["_law_script"] (spLaw K) := by
 refine T.d_law.fn sc_law bd_law (fun vs H Q E h => ?_) fun f cdv A outer s H vs Q E HR h => ?_
 ·unfold spLaw at h; split at h <;> first | rfl | exact h.elim
 ·unfold spLaw at h
  split at h
  ·rename_i a
   obtain ⟨ns, hS, hl, _, q⟩ := h
   refine ⟨_, (QSs.h (qss_cons ⟨(ps_setQ (i := 1) sc_law.nd rfl (Or.inr rfl) (pe_fnQ (ok__law_cell_at T a ns) HR (by decide) rfl (pa_q (pv 0) (pa_q pe_int pa_nil))))⟩
 (qss_hold (qss_cons ⟨(ps_setQ (i := 2) sc_law.nd rfl (Or.inl rfl) (pe_op (op_addK K rfl) pe_int (pe_op op_mod (pv 1) pe_int)))⟩
 (qss_cons ⟨(ps_setQ (i := 3) sc_law.nd rfl (Or.inl rfl) (pe_op (op_addK K rfl) pe_int (pe_op op_mod (pe_op op_fdiv (pv 1) pe_int) (pe_ix (ix_B K rfl) (pe_lst (pa_q pe_int (pa_q pe_int pa_nil))) (pe_op op_mod (pe_op op_fdiv (pv 1) pe_int) pe_int) (fun _ _ => rfl)))))⟩
 (qss_hold (qss_cons ⟨(ps_setQ (i := 4) sc_law.nd rfl (Or.inl rfl) (pe_fnQ (ok__law_ring T) HR (by decide) rfl (pa_q (pe_fnQ (ok__law_cell_at T a ns) HR (by decide) rfl (pa_q (pv 0) (pa_q pe_int pa_nil))) (pa_q (pv 2) (pa_q (pv 3) pa_nil)))))⟩
 (qss_hold (qss_cons ⟨(ps_setQ (i := 5) sc_law.nd rfl (Or.inl rfl) (pe_op (op_addK K rfl) pe_int (pe_op op_mod (pe_fnQ (ok__law_cell_at T a ns) HR (by decide) rfl (pa_q (pv 0) (pa_q pe_int pa_nil))) pe_int)))⟩
 (qss_hold (qss_cons ⟨(ps_setQ (i := 6) sc_law.nd rfl (Or.inl rfl) (pe_op (op_addK K rfl) (pv 5) (pe_op op_mod (pe_op op_fdiv (pe_fnQ (ok__law_cell_at T a ns) HR (by decide) rfl (pa_q (pv 0) (pa_q pe_int pa_nil))) pe_int) pe_int)))⟩
 (qss_hold (qss_cons ⟨(ps_setQ (i := 7) sc_law.nd rfl (Or.inl rfl) (pe_op (op_addK K rfl) pe_int (pe_op op_mod (pe_op op_fdiv (pe_fnQ (ok__law_cell_at T a ns) HR (by decide) rfl (pa_q (pv 0) (pa_q pe_int pa_nil))) pe_int) (pe_ix (ix_B K rfl) (pe_lst (pa_q pe_int (pa_q pe_int pa_nil))) (pe_op op_mod (pe_op op_fdiv (pe_fnQ (ok__law_cell_at T a ns) HR (by decide) rfl (pa_q (pv 0) (pa_q pe_int pa_nil))) pe_int) pe_int) (fun _ _ => rfl)))))⟩
 (qss_hold (qss_cons ⟨(ps_setQ (i := 8) sc_law.nd rfl (Or.inl rfl) (pe_mkC T.k_Sender (ok_Sender___init__ T) HR (by decide) rfl (pa_q (pv 4) (pa_q (pv 5) (pa_q (pv 6) (pa_q (pv 7) pa_nil))))))⟩
 (qss_hold (qss_cons (qs_setQ (i := 9) sc_law.nd rfl (Or.inl rfl) (qe_tup (qa_q ⟨(pv 8)⟩ (qa_q ⟨(pe_mkC T.k_Taker (ok_Taker___init__ T) HR (by decide) rfl (pa_q (pv 4) (pa_q (pv 2) pa_nil)))⟩ (qa_q (qe_lst qa_nil) (qa_q (qe_lst qa_nil) qa_nil))))))
 (qss_hold (qss_cons (qs_setQ (i := 10) sc_law.nd rfl (Or.inl rfl) (qe_tup (qa_q ⟨pe_dnewK⟩ (qa_q ⟨pe_dnewK⟩ qa_nil))))
 (qss_hold (qss_cons ⟨(ps_setQ (i := 11) sc_law.nd rfl (Or.inr rfl) pe_int)⟩
 (qss_hold (qss_cons ⟨(ps_for PassesOwn.never rfl (pi_seqK K rfl (pe_slice (sl_K K rfl) (pv 0) (po_some pe_int) (po_some pe_int))) (pg_name (i := 1) sc_law.nd rfl (Or.inr rfl)) (pss_cons (ps_for PassesOwn.never rfl (pj_range1 rfl T.b_range (pa_q (pe_op op_mod (pe_fnQ (ok__law_mixed T) HR (by decide) rfl (pa_q (pv 1) (pa_q pe_int (pa_q (pv 11) pa_nil)))) pe_int) pa_nil)) (pg_name (i := 12) sc_law.nd rfl (Or.inl rfl)) (pss_cons (ps_setQ (i := 13) sc_law.nd rfl (Or.inl rfl) (pe_fnQ (ok__law_mixed T) HR (by decide) rfl (pa_q (pv 1) (pa_q (pe_op (op_addK K rfl) pe_int (pv 12)) (pa_q (pv 11) pa_nil)))))
 (pss_cons (ps_exprQ (pe_appendK K rfl (pe_ix (ix_B K rfl) (pv 9) pe_int (fun _ _ => rfl)) (pe_tup (pa_q pe_str (pa_q (pe_op (op_addK K rfl) (pe_ix (ix_B K rfl) pe_str (pe_op op_mod (pv 13) pe_int) (fun _ _ => rfl)) (pe_callTyQ call_str_int (by rfl) T.b_str bt_str (pa_q (pe_op op_mod (pe_op op_fdiv (pv 13) pe_int) pe_int) pa_nil))) pa_nil)))))
 (pss_hold (pss_one (ps_exprQ (pe_mtC (pv 8) T.k_Sender (ok_Sender_put T) HR (by decide) (pa_q (pe_ix (ix_B K rfl) (pe_ix (ix_B K rfl) (pv 9) pe_int (fun _ _ => rfl)) (pe_un un_neg pe_int) (fun _ _ => rfl)) pa_nil))))))))
 (pss_hold (pss_one (ps_for PassesOwn.never rfl (pj_range1 rfl T.b_range (pa_q (pe_op (op_addK K rfl) pe_int (pe_op op_mod (pe_fnQ (ok__law_mixed T) HR (by decide) rfl (pa_q (pv 1) (pa_q pe_int (pa_q (pv 11) pa_nil)))) pe_int)) pa_nil)) (pg_name (i := 14) sc_law.nd rfl (Or.inr rfl)) (pss_cons (ps_setQ (i := 11) sc_law.nd rfl (Or.inr rfl) (pe_op (op_addK K rfl) (pv 11) pe_int))
 (pss_hold (pss_cons (ps_setc (i := 15) (N := (["_law_k", "_law_cell", "_law_turn_here", "_law_step"] : List Str)) (nv := 1) (ix := [1, 11, 14]) rfl sc_law.nd rfl rfl (cs_of (by kernel_rfl)) (pj_range1 rfl T.b_range (pa_q pe_int pa_nil)) (fun _ _ _ _ _ => (pg_name (i := 0) (show ((["_law_k", "_law_cell", "_law_turn_here", "_law_step"] : List Str)).Nodup by decide) rfl (Or.inl rfl))) (fun _ _ _ _ _ => pts_nil) (fun _ _ _ _ _ => (pe_fnQ (ok__law_mixed T) HR (by decide) rfl (pa_q (pv 1) (pa_q (pe_op (op_addK K rfl) (pe_op (op_addK K rfl) pe_int (pe_op op_mul pe_int (pv 3))) (pv 0)) (pa_q (pv 2) pa_nil))))))
 (pss_hold (pss_one (ps_exprQ (pe_fnQ (ok__law_turn T) HR (by decide) rfl (pa_q (pv 9) (pa_q (pv 10) (pa_q (pv 15) (pa_q (pv 11) (pa_q (pv 4) (pa_q (pv 3) pa_nil))))))))))))))))))⟩
 (qss_hold (qss_cons ⟨(ps_setQ (i := 16) sc_law.nd rfl (Or.inl rfl) (pe_callBQ (call_lenB K rfl) (by rfl) T.b_len bt_len (pa_q (pe_ix (ix_B K rfl) (pv 9) pe_int (fun _ _ => rfl)) pa_nil)))⟩
 (qss_hold (qss_cons ⟨(ps_setQ (i := 17) sc_law.nd rfl (Or.inl rfl) (pe_op (op_addK K rfl) (pv 11) (pe_op op_mulW (pe_op (op_addK K rfl) (pe_op (op_addK K rfl) (pe_op op_mul pe_int (pv 16)) (pv 2)) pe_int) (pe_op (op_addK K rfl) (pe_op (op_addK K rfl) (pv 6) (pv 3)) pe_int))))⟩
 (qss_hold (qss_cons ⟨(ps_while PassesOwn.never (PW.pt (pw_and (pt_cmpR op_lt (pv 11) (pv 17) (nomark _)) (pw_and1 (PW.pt (pw_or (pt_cmpR op_lt (pe_fldC (pv 8) T.k_Sender T.n_Sender_base rfl) (pv 16) (nomark _)) (pw_or1 (pt_cmpR op_lt (pe_callBQ (call_lenB K rfl) (by rfl) T.b_len bt_len (pa_q (pe_ix (ix_B K rfl) (pv 9) pe_int (fun _ _ => rfl)) pa_nil)) (pv 16) (nomark _)))))))) (pss_cons (ps_setQ (i := 11) sc_law.nd rfl (Or.inr rfl) (pe_op (op_addK K rfl) (pv 11) pe_int))
 (pss_hold (pss_one (ps_exprQ (pe_fnQ (ok__law_turn T) HR (by decide) rfl (pa_q (pv 9) (pa_q (pv 10) (pa_q (pe_lst (pa_q pe_int (pa_q pe_int (pa_q pe_int (pa_q pe_int (pa_q pe_int pa_nil)))))) (pa_q (pv 11) (pa_q (pv 4) (pa_q pe_int pa_nil))))))))))))⟩
 (qss_hold (qss_cons (qs_if (PW.pt (pw_or (pt_cmpR (op_neK K rfl HR.units) (pe_fldC (pv 8) T.k_Sender T.n_Sender_base rfl) (pv 16) (nomark _)) (pw_or1 (pt_not (pt_q (pe_fnQ (ok__law_alike T) HR (by decide) rfl (pa_q (pe_ix (ix_B K rfl) (pv 9) pe_int (fun _ _ => rfl)) (pa_q (pe_ix (ix_B K rfl) (pv 9) pe_int (fun _ _ => rfl)) pa_nil)))))))) (qss_one ⟨(ps_ret pe_bl)⟩) qss_nil)
 (qss_hold (qss_one ⟨(ps_ret (pe_and (pe_cmpR op_isNA (pe_mtC (pv 8) T.k_Sender (ok_Sender_go T) HR (by decide) (pa_q (pe_op (op_addK K rfl) (pv 11) pe_int) pa_nil)) pe_non (nomark _)) (pe_one (pe_cmpR op_isNA (pe_mtC (pv 8) T.k_Sender (ok_Sender_go T) HR (by decide) (pa_q (pe_op (op_addK K rfl) (pe_op (op_addK K rfl) (pv 11) (pv 6)) pe_int) pa_nil)) pe_non (nomark _)))))⟩))))))))))))))))))))))))))))))))), ?_⟩
   generalize h_ua : tHold _ = ua
   walk_at "wps"
   refine ⟨hS, fun c => ?_⟩
   rw [← h_ua, tHold]
   generalize h_ub : tHold _ = ub
   walk_at "wps"
   intro p0 hp0
   obtain ⟨l0, el0, hl0⟩ : ∃ l0 : Int, atI [V.int 8, V.int 60] (c / 16 % 2) = some (.int l0) ∧ 1 ≤ l0 ∧ l0 ≤ 60 := by
    have h4 : c / 16 % 2 = 0 ∨ c / 16 % 2 = 1 := by omega
    rcases h4 with e | e <;> rw [e]
    ·exact ⟨_, atI_0, by decide⟩
    ·exact ⟨_, atI_1, by decide⟩
   refine ⟨_, el0, ?_⟩
   clear el0
   have sm1 := same_upd (o := .lst [V.int 8, V.int 60]) hp0
   generalize upd H p0 (.lst [V.int 8, V.int 60]) = H1 at *
   have hS1 := same_lst sm1 hS
   walk_at "wps"
   refine ⟨by omega, ?_⟩
   have hG : 1 ≤ 1 + c / 32 % l0 ∧ 1 + c / 32 % l0 ≤ 60 := by
    have h1 := Int.emod_nonneg (c / 32) (show l0 ≠ 0 by omega)
    have h2 := Int.emod_lt_of_pos (c / 32) (show 0 < l0 by omega)
    omega
   have hM : 1 ≤ 1 + c % 16 ∧ 1 + c % 16 ≤ 16 := by omega
   generalize 1 + c / 32 % l0 = G at *
   generalize 1 + c % 16 = M at *
   rw [← h_ub, tHold]
   generalize h_uc : tHold _ = uc
   walk_at "wps"
   refine ⟨hS1, fun c1 => ⟨⟨hM.1, hM.2, hG.1, hG.2⟩, fun R hR => ?_⟩⟩
   have r1 : M < R := by have hR' := hR; unfold RgOk at hR'; omega
   rw [← h_uc, tHold]
   generalize h_ud : tHold _ = ud
   walk_at "wps"
   refine ⟨hS1, fun c2 => ?_⟩
   have hfi : 2 ≤ 2 + c2 % 9 ∧ 2 + c2 % 9 ≤ 10 := by omega
   generalize 2 + c2 % 9 = fi at *
   rw [← h_ud, tHold]
   generalize h_ue : tHold _ = ue
   walk_at "wps"
   refine ⟨hS1, fun c3 => ?_⟩
   have hLo : fi ≤ fi + c3 / 9 % 31 ∧ fi + c3 / 9 % 31 ≤ 40 := by omega
   generalize fi + c3 / 9 % 31 = Lo at *
   rw [← h_ue, tHold]
   generalize h_uf : tHold _ = uf
   walk_at "wps"
   refine ⟨hS1, fun c4 p1 hp1 => ?_⟩
   have sm2 := same_upd (o := .lst [V.int 20, V.int 1000]) hp1
   generalize upd H1 p1 (.lst [V.int 20, V.int 1000]) = H2 at *
   have hS2 := same_lst sm2 hS1
   refine ⟨hS2, fun c5 => ?_⟩
   obtain ⟨m3, em3, m30⟩ : ∃ m3 : Int, atI [V.int 20, V.int 1000] (c5 / 279 % 2) = some (.int m3) ∧ 0 < m3 := by
    have h4 : c5 / 279 % 2 = 0 ∨ c5 / 279 % 2 = 1 := by omega
    rcases h4 with e | e <;> rw [e]
    ·exact ⟨_, atI_0, by decide⟩
    ·exact ⟨_, atI_1, by decide⟩
   have mm3 := Int.emod_nonneg (c4 / 558) (show m3 ≠ 0 by omega)
   refine ⟨_, em3, ?_⟩
   walk_at "wps"
   refine ⟨m30, ?_⟩
   generalize hMo : 1 + c4 / 558 % m3 = mo at *
   rw [← h_uf, tHold]
   generalize h_ug : tHold _ = ug
   walk_at "wps"
   refine fun x dxs nx ndx nex => ⟨⟨hfi.1, hLo.1, by omega⟩, dxs, rfl, fun A H3 hB3 S3 => ?_⟩
   have sm3 : Same H2 H3 := fun b o e => hB3 b o (same_new nx ndx b o e) (ne_of_none e nx)
   have hS3 := same_lst sm3 hS2
   clear hB3 nx ndx nex
   rw [← h_ug, tHold]
   generalize h_uh : tHold _ = uh
   walk_at "wps"
   refine fun tk dx ntk ndx _ => ⟨dx, rfl, fun pk H4 hpk hB4 T4 => ?_⟩
   have sm4 : Same H3 H4 := fun b o e => hB4 b o (same_new ntk ndx b o e) (ne_of_none e ntk)
   have S4 := S3.same sm4
   have hS4 := same_lst sm4 hS3
   have hpk2 : H3 pk = none := by
    cases qq : H3 pk with
    | none => rfl
    | some o => rw [same_new ntk ndx _ _ qq] at hpk; cases hpk
   obtain ⟨sw, swp, ew⟩ := S3.ws.ins
   have xt : x ≠ tk := ne_of_none S3.hx ntk
   have wt : A.pw ≠ tk := ne_of_none ew ntk
   have mt : A.pm ≠ tk := ne_of_none S3.ms.1 ntk
   have kp : pk ≠ A.pk ∧ pk ≠ A.pf ∧ pk ≠ A.pa := ⟨(ne_of_none S3.hk hpk2).symm, (ne_of_none S3.hf hpk2).symm, (ne_of_none S3.ha hpk2).symm⟩
   clear hB4 S3 hS3 hpk ew ntk ndx
   intro pT nT
   have sm5 := same_upd (o := .lst []) nT
   have fT := upd_same (H := H4) (a := pT) (o := .lst [])
   have lT : A.pt ≠ pT := ne_of_none S4.ht nT
   generalize upd H4 pT (.lst []) = H5 at *
   intro pG nG
   have sm6 : Same H4 (upd H5 pG (.lst [])) := fun b o e => upd_old (sm5 b o e) nG
   have fG := upd_same (H := H5) (a := pG) (o := .lst [])
   have nTG : pT ≠ pG := ne_of_none fT nG
   have lG : A.pt ≠ pG := ne_of_none (sm5 _ _ S4.ht) nG
   replace fT := upd_old (o := .lst []) fT nG
   generalize upd H5 pG (.lst []) = H6 at *
   intro pH nH
   have sm8 : Same H6 (upd H6 pH (.tup [V.ref x, V.ref tk, V.ref pT, V.ref pG])) := same_upd nH
   have fH := upd_same (H := H6) (a := pH) (o := .tup [V.ref x, V.ref tk, V.ref pT, V.ref pG])
   generalize upd H6 pH (.tup [V.ref x, V.ref tk, V.ref pT, V.ref pG]) = H8 at *
   have sm48 : Same H4 H8 := fun b o e => sm8 _ _ (sm6 b o e)
   have S8 := S4.same sm48
   have T8 := T4.same sm48
   have hS8 := same_lst sm48 hS4
   replace fT := sm8 _ _ fT
   replace fG := sm8 _ _ fG
   clear sm5 sm6 sm8 sm48 S4 T4 hS4 nT nG nH
   rw [← h_uh, tHold]
   generalize h_ui : tHold _ = ui
   walk_at "wps"
   intro d0 n0
   have sm9 := same_upd (o := .dK []) n0
   have f0 := upd_same (H := H8) (a := d0) (o := .dK [])
   have k0 : d0 ≠ A.pk ∧ d0 ≠ A.pf ∧ d0 ≠ A.pa := ⟨(ne_of_none S8.hk n0).symm, (ne_of_none S8.hf n0).symm, (ne_of_none S8.ha n0).symm⟩
   have k0' : d0 ≠ pk := (ne_of_none T8.hD n0).symm
   generalize upd H8 d0 (.dK []) = H9 at *
   intro d1 n1
   have sm10 : Same H8 (upd H9 d1 (.dK [])) := fun b o e => upd_old (sm9 b o e) n1
   have f1 := upd_same (H := H9) (a := d1) (o := .dK [])
   have k1 : d1 ≠ A.pk ∧ d1 ≠ A.pf ∧ d1 ≠ A.pa := ⟨(ne_of_none (sm9 _ _ S8.hk) n1).symm, (ne_of_none (sm9 _ _ S8.hf) n1).symm, (ne_of_none (sm9 _ _ S8.ha) n1).symm⟩
   have k1' : d1 ≠ pk := (ne_of_none (sm9 _ _ T8.hD) n1).symm
   have ndd : d0 ≠ d1 := ne_of_none f0 n1
   replace f0 := upd_old (o := .dK []) f0 n1
   generalize upd H9 d1 (.dK []) = H10 at *
   intro pL nL
   have sm11 : Same H10 (upd H10 pL (.tup [V.ref d0, V.ref d1])) := same_upd nL
   have fL := upd_same (H := H10) (a := pL) (o := .tup [V.ref d0, V.ref d1])
   generalize upd H10 pL (.tup [V.ref d0, V.ref d1]) = H11 at *
   have sm811 : Same H8 H11 := fun b o e => sm11 _ _ (sm10 b o e)
   have S11 := S8.same sm811
   have T11 := T8.same sm811
   have hS11 := same_lst sm811 hS8
   replace fT := sm811 _ _ fT
   replace fG := sm811 _ _ fG
   replace fH := sm811 _ _ fH
   replace f0 := sm11 _ _ f0
   replace f1 := sm11 _ _ f1
   clear sm9 sm10 sm11 sm811 S8 T8 hS8 n0 n1 nL
   rw [← h_ui, tHold]
   generalize h_uj : tHold _ = uj
   walk_at "wps"
   rw [← h_uj, tHold]
   generalize h_w1 : tHold _ = w1
   generalize h_w2 : tHold _ = w2
   generalize h_w3 : tHold _ = w3
   walk_at "wps"
   refine rSlA_list hS11 fun p2 hp2 => ?_
   obtain ⟨ms, em, hms⟩ := cut40 (ns := ns)
   rw [em]
   have g1 := upd_same (H := H11) (a := p2) (o := .lst (ms.map V.int))
   have sm12 := same_upd (o := .lst (ms.map V.int)) hp2
   have n2 : p2 ≠ pG ∧ p2 ≠ A.pt ∧ p2 ≠ pT := ⟨(ne_of_none fG hp2).symm, (ne_of_none S11.ht hp2).symm, (ne_of_none fT hp2).symm⟩
   generalize upd H11 p2 (.lst (ms.map V.int)) = H12 at *
   have J0 : Jw ⟨R, 0, 0, 1, .non, false, [], [], [], [], Lo, fi, 0, MeterM.mn 2 mo, none, mo, mo, 0⟩ R 0 0 := ⟨rfl, by omega, ⟨Int.le_refl _, Int.le_refl _, by show (0 : Int) ≤ 900; decide⟩, by show (0 : Int) ≤ 1; decide, Int.le_refl _, Nat.zero_le _, Nat.zero_le _, fun j _ => rfl, .inl rfl, fun j h0 h1 => absurd h1 (by show ¬ j < 0; omega), Int.le_refl _, by decide, Nat.zero_le _, Nat.le_refl _, Nat.le_refl _⟩
   have nk : ∀ j, knw [] j = false := fun j => rfl
   have W0 : TwP ⟨R, M, 0, 0, []⟩ [] [] M 0 := ⟨Int.le_refl _, Int.le_refl _, Int.le_refl _, Int.le_refl _, by show (0 : Int) ≤ 0 + M; omega, fun i v hv => (by rw [valV_nil] at hv; cases hv), fun i _ hk => (by rw [nk] at hk; cases hk), fun i h0 h1 => absurd h1 (by show ¬ i < 0; omega), rfl, fun i hk => (by rw [nk] at hk; cases hk), Nat.zero_le _, Nat.zero_le _⟩
   have LL : Lw C_Sender C_Ways C_Meter C_Taker H12 ⟨x, A, tk, dx, pk, pT, pG, d0, d1, R, M, G, Lo⟩ ⟨R, 0, 0, 1, .non, false, [], [], [], [], Lo, fi, 0, MeterM.mn 2 mo, none, mo, mo, 0⟩ ⟨R, M, 0, 0, []⟩ [] (fun _ => none) 0 0 0 0 0 0 :=
    ⟨S11.same sm12, ⟨T11.same sm12, sm12 _ _ fT, sm12 _ _ fG, rfl, rfl, fun v hv => (by cases hv), nTG, W0⟩, J0, ⟨[], sm12 _ _ f0, Nat.le_refl _, fun i v hv => (by rw [valV_nil] at hv; cases hv)⟩, ⟨[], sm12 _ _ f1, Nat.le_refl _, fun i v hv => (by rw [valV_nil] at hv; cases hv)⟩, fun b i hb => (by cases hb), rfl, rfl, rfl,
     ⟨xt, wt, mt, lT, lG, fun d hd => (by simp only [List.mem_cons, List.mem_nil_iff, or_false] at hd; rcases hd with rfl | rfl | rfl <;> assumption), k0', k1', ndd⟩, Int.le_refl _, Int.le_refl _, by show (1 : Int) ≤ 0 + M; omega, by show (1 : Int) ≤ 0 + M; omega, .inl rfl, fun q => absurd q (by decide), hR, hM, hG, rfl, fun q => absurd q (by show ¬ (0 : Int) < 0; decide)⟩
   have LV : Lv C_Sender C_Ways C_Meter C_Taker H12 ⟨x, A, tk, dx, pk, pT, pG, d0, d1, R, M, G, Lo⟩ pH pL p2 ms (2 * 0) ⟨R, 0, 0, 1, .non, false, [], [], [], [], Lo, fi, 0, MeterM.mn 2 mo, none, mo, mo, 0⟩ ⟨R, M, 0, 0, []⟩ [] (fun _ => none) 0 0 0 0 :=
    ⟨LL, sm12 _ _ fH, sm12 _ _ fL, g1, rfl, n2, Nat.le_refl _, Int.le_refl _, by decide, by decide⟩
   clear LL J0 W0 S11 T11 hS11 fT fG fH f0 f1 fL g1
   obtain ⟨f, ef⟩ : ∃ f : Fx, f = ⟨x, A, tk, dx, pk, pT, pG, d0, d1, R, M, G, Lo⟩ := ⟨_, rfl⟩
   rw [← ef] at LV
   obtain ⟨ex, eR, eM, eG, eLo⟩ : x = f.x ∧ R = f.R ∧ M = f.M ∧ G = f.G ∧ Lo = f.L := by rw [ef]; exact ⟨rfl, rfl, rfl, rfl, rfl⟩
   rw [ex, eR, eM, eG, eLo]
   rw [eLo] at hLo
   rw [eM] at hM
   rw [eG] at hG
   clear ex eR eM eG eLo ef
   refine fo_list (xs := ms.map V.int) (SqL.of LV.hl) (fun i σ H' => ∃ z y F ow m n e s v1 v12 v13 v14 v15, Lv C_Sender C_Ways C_Meter C_Taker H' f pH pL p2 ms (2 * i) z y F ow m n e s ∧ n ≤ 2 * (i : Int) ∧ σ = [some (.ref a), v1, some (.int f.M), some (.int f.G), some (.int f.R), some (.int fi), some (.int f.L), some (.int mo), some (.ref f.x), some (.ref pH), some (.ref pL), some (.int n), v12, v13, v14, v15, none, none]) ⟨_, _, _, _, _, _, _, _, _, _, _, _, _, LV, by decide, rfl⟩ (fun i σ H' _ hp => by obtain ⟨_, _, _, _, _, _, _, _, _, _, _, _, _, h, _⟩ := hp; exact SqL.of h.hl) (fun i yy σ H13 hy hp => ?_) (fun σ H13 hp => ?_)
   ·obtain ⟨z, y, F, ow, m, n, e, s', v1, v12, v13, v14, v15, L, hn2, rfl⟩ := hp
    obtain ⟨cc, rfl, _⟩ := map_int_get hy
    have hi : i < 40 := by
     have := (List.getElem?_eq_some_iff.mp hy).1
     rw [List.length_map] at this
     omega
    have nS := L.n0
    walk_at "wps"
    refine ⟨by omega, fun n0 hn0 => ⟨by omega, ?_⟩⟩
    have hn3 : (n0 % 3).toNat ≤ 2 := by omega
    refine gen_ends fun DD eDD => ?_
    refine fo_rng (lo := 0) (n := (n0 % 3).toNat) (fun j σ H' => ∃ z y F ow m e s v12 v13, Lv C_Sender C_Ways C_Meter C_Taker H' f pH pL p2 ms (2 * i + j) z y F ow m n e s ∧ σ = [some (.ref a), some (.int cc), some (.int f.M), some (.int f.G), some (.int f.R), some (.int fi), some (.int f.L), some (.int mo), some (.ref f.x), some (.ref pH), some (.ref pL), some (.int n), v12, v13, v14, v15, none, none]) ⟨z, y, F, ow, m, e, s', v12, v13, L, rfl⟩ (fun j σ H14 hj hp => ?_) (fun σ H14 hp => ?_)
    ·obtain ⟨z, y, F, ow, m, e, s', w12, w13, L, rfl⟩ := hp
     have tT := L.tT
     exists L.hH, L.L.W.hT
     refine ⟨by omega, fun n1 hn1 => ⟨tyV_list (SqL.of L.L.W.hT), ?_⟩⟩
     rw [rIxA_str]
     obtain ⟨ch, hch⟩ : ∃ ch, atI (Str.ofString "abcdefghijkmnopqrstuvwxyz").cps.toList (n1 % 25) = some ch := atI_ex (by omega) (by show n1 % 25 < 25; omega)
     obtain ⟨nn, enn, hnn⟩ : ∃ nn : Nat, n1 / 25 % 99 = (nn : Int) ∧ nn < 101 := ⟨(n1 / 25 % 99).toNat, by omega, by omega⟩
     refine ⟨ch, by rw [sizeLine_eq]; decide, hch, (nn : Int), by rw [enn], loglen ⟨nn, hnn⟩, ?_⟩
     have hsl := strlen ⟨nn, hnn⟩
     walk_at "wps"
     refine ⟨by rw [sizeLine_eq]; have h1 : (⟨#[ch]⟩ : Str).length = 1 := rfl; have h3 : (Str.ofString (toString (nn : Int))).length ≤ 10 := hsl; omega, fun pt hpt0 => ?_⟩
     generalize (⟨#[ch]⟩ : Str) ++ Str.ofString (toString (nn : Int)) = sb at *
     have sm15 := same_upd (o := .tup [V.str (Str.ofString "signs"), V.str sb]) hpt0
     have hpt := upd_same (H := H14) (a := pt) (o := .tup [V.str (Str.ofString "signs"), V.str sb])
     generalize upd H14 pt (.tup [V.str (Str.ofString "signs"), V.str sb]) = H15 at *
     have L15 := L.same sm15
     have hT15 := L15.L.W.hT
     have S15 := L15.L.S
     obtain ⟨sw, swp, ew⟩ := S15.ws.ins
     have S16 : SdAt C_Sender C_Ways C_Meter (upd H15 f.pT (.lst (z.T ++ [V.ref pt]))) f.x f.A z := S15.keep (fun u q => by rw [upd_ne (ne_of S15.hx hT15 (by simp))]; exact q) (fun u q => by rw [upd_ne (ne_of ew hT15 (by simp))]; exact q) (fun u q => by rw [upd_ne (ne_of S15.ms.1 hT15 (by simp))]; exact q) (fun u q => by rw [upd_ne L15.L.a.lT]; exact q) (fun u q => by rw [upd_ne (ne_of S15.hk hT15 (by simp))]; exact q) (fun u q => by rw [upd_ne (ne_of S15.hf hT15 (by simp))]; exact q) (fun u q => by rw [upd_ne (ne_of S15.ha hT15 (by simp))]; exact q) (fun t l q => by rw [upd_ne (ne_of q hT15 (by simp))]; exact q)
     have hH16 : upd H15 f.pT (.lst (z.T ++ [V.ref pt])) pH = _ := (upd_ne (ne_of L15.hH hT15 (by simp))).trans L15.hH
     have hT16 := upd_same (H := H15) (a := f.pT) (o := .lst (z.T ++ [V.ref pt]))
     refine ⟨z.T, hT15, by rw [sizeLine_eq]; omega, ?_⟩
     have lput := fun H' hB S' => L15.L.put (H' := H') (v := V.ref pt) ⟨pt, _, sb, rfl, hpt⟩ (by omega) hB S'
     generalize upd H15 f.pT (.lst (z.T ++ [V.ref pt])) = H16 at *
     rw [← h_w1, tHold]
     exists S16.hx, hH16, hT16
     refine ⟨f.A, z, S16, by omega, fun H17 hB17 S17 => ?_⟩
     obtain ⟨L17, t17⟩ := lput H17 hB17 S17
     have n2' := L15.n2
     have e2 : (fun b => if b = f.pT then some (2, (0 : Int)) else ow b) p2 = none := by
      show (if p2 = f.pT then _ else _) = _
      rw [if_neg n2'.2.2]; exact L15.o2
     exact ⟨_, y, F, ow, m, e, s', _, _, ⟨L17, t17.1 _ _ L15.hH, t17.1 _ _ L15.hL, (t17.2 _ _ L15.hl n2'.1 n2'.2.1 e2).1, L15.o2, n2', by show (z.T ++ [V.ref pt]).length ≤ _; rw [List.length_append, List.length_singleton]; omega, L15.n0, L15.mS, L15.sS⟩, rfl⟩
    obtain ⟨z, y, F, ow, m, e, s', w12, w13, L, rfl⟩ := hp
    replace L := L.up (cT' := 2 * (i + 1)) (by omega)
    rw [eDD]
    rw [← h_w2, tHold]
    generalize h_w4 : tHold _ = w4
    walk_at "wps"
    refine ⟨by omega, fun n1 hn1 => ⟨by omega, ?_⟩⟩
    have hn4 : (1 + n1 % 2).toNat ≤ 2 := by omega
    clear eDD DD
    refine gen_ends fun DD eDD => ?_
    refine fo_rng (lo := 0) (n := (1 + n1 % 2).toNat) (fun j σ H' => ∃ z y F ow m n e s v14 v15, Lv C_Sender C_Ways C_Meter C_Taker H' f pH pL p2 ms (2 * (i + 1)) z y F ow m n e s ∧ n ≤ 2 * (i : Int) + j ∧ σ = [some (.ref a), some (.int cc), some (.int f.M), some (.int f.G), some (.int f.R), some (.int fi), some (.int f.L), some (.int mo), some (.ref f.x), some (.ref pH), some (.ref pL), some (.int n), w12, w13, v14, v15, none, none]) ⟨z, y, F, ow, m, n, e, s', v14, v15, L, by omega, rfl⟩ (fun j σ H15 hj hp => ?_) (fun σ H15 hp => ?_)
    ·obtain ⟨z, y, F, ow, m, n, e, s', w14, w15, L, hn5, rfl⟩ := hp
     have nS := L.n0
     have mS := L.mS
     have sS := L.sS
     walk_at "wps"
     rw [← h_w4, tHold]
     generalize h_w5 : tHold _ = w5
     walk_at "wps"
     refine co_rngH (lo := 0) (n := 5) (fun k ys σ H' => H' = H15 ∧ (∃ ns : List Int, ys = ns.map V.int ∧ ns.length = k ∧ ∀ u ∈ ns, 0 ≤ u) ∧ ∃ v, σ = [v, some (V.int cc), some (V.int (n + 1)), some (V.int (0 + (j : Int)))]) ⟨rfl, ⟨[], rfl, rfl, fun u hu => (by cases hu)⟩, _, rfl⟩ (small_ok (by decide)) (fun k ys σ H' hh => by obtain ⟨_, ⟨ns, h1, h2, _⟩, _⟩ := hh; rw [h1, List.length_map, h2]; exact Nat.le_refl _) (fun k ys σ H' hk hh => ?_) (fun ys σ H' hh => ?_)
     ·obtain ⟨rfl, ⟨ns, rfl, h2, h3⟩, v, rfl⟩ := hh
      walk_at "wps"
      refine ⟨by omega, fun u hu => ⟨⟨ns ++ [u], by rw [List.map_append]; rfl, by rw [List.length_append, List.length_singleton]; omega, fun w hw => ?_⟩, _, rfl⟩⟩
      rcases List.mem_append.mp hw with hw | hw
      ·exact h3 w hw
      ·rw [List.mem_singleton.mp hw]; exact hu
     obtain ⟨rfl, ⟨ns, rfl, h2, h3⟩, v, rfl⟩ := hh
     obtain ⟨k0, k1, k2, k3, k4, rfl⟩ : ∃ k0 k1 k2 k3 k4, ns = [k0, k1, k2, k3, k4] := by
      match ns, h2 with
      | [k0, k1, k2, k3, k4], _ => exact ⟨k0, k1, k2, k3, k4, rfl⟩
     have hk2 := h3 k2 (by simp)
     refine ⟨small_ok (by rw [List.length_map, h2]; decide), fun pN hpN => ?_⟩
     have sm16 := same_upd (o := .lst ([k0, k1, k2, k3, k4].map V.int)) hpN
     have hN16 := upd_same (H := H') (a := pN) (o := .lst ([k0, k1, k2, k3, k4].map V.int))
     have oN : ow pN = none := L.L.od.nn hpN
     have nN : pN ≠ f.pG ∧ pN ≠ f.A.pt := ⟨(ne_of_none L.L.W.hG hpN).symm, (ne_of_none L.L.S.ht hpN).symm⟩
     have L16 := L.same sm16
     generalize upd H' pN (.lst ([k0, k1, k2, k3, k4].map V.int)) = H16 at *
     rw [← h_w5, tHold]
     walk_at "wps"
     have LT := L16.L.turn
     refine ⟨f, z, y, F, ow, m, e, y.g, s' + 1, k0, k1, k2, k3, k4, L16.hH, L16.hL, hN16, hk2, oN, rfl, ⟨hG.1, Int.le_refl _⟩, by omega, nN, by rw [show n + 1 - 1 = n by omega]; exact LT, ⟨by omega, by omega⟩, fun z1 z7 y7 F7 ow7 e7 v Ha Hb H17 t17 L17 eT tr => ?_⟩
     have n2' := L16.n2
     have hl17 := t17.2 _ _ L16.hl n2'.1 n2'.2.1 L16.o2
     exact ⟨z7, y7, F7, ow7, _, _, e7, _, _, _, ⟨L17, t17.1 _ _ L16.hH, t17.1 _ _ L16.hL, hl17.1, hl17.2, n2', by rw [eT]; exact L16.tT, by omega, by omega, by omega⟩, by omega, rfl⟩
    obtain ⟨z, y, F, ow, m, n, e, s', w14, w15, L, hn5, rfl⟩ := hp
    rw [eDD]
    exact ⟨z, y, F, ow, m, n, e, s', _, _, _, _, _, L, by omega, rfl⟩
   obtain ⟨z, y, F, ow, m, n, e, s', v1, v12, v13, v14, v15, L, hn2, rfl⟩ := hp
   have tT := L.tT
   have nS := L.n0
   rw [List.length_map] at hn2 tT
   rw [← h_w3, tHold]
   generalize h_w6 : tHold _ = w6
   exists L.hH, L.L.W.hT
   rw [← h_w6, tHold]
   generalize h_w7 : tHold _ = w7
   walk_at "wps"
   refine ⟨mulW_l ⟨by omega, by omega⟩, ?_⟩
   obtain ⟨N, eN⟩ : ∃ N : Int, N = z.T.length := ⟨_, rfl⟩
   have hL2 : 2 ≤ f.L := by omega
   have hN : 0 ≤ N ∧ N ≤ 80 := by omega
   have hlast : (4 * N + f.M + 2) * (f.L + f.G + 4) ≤ 36000 := by
    have h1 := Int.mul_le_mul_of_nonneg_right (show 4 * N + f.M + 2 ≤ 338 by omega) (show 0 ≤ f.L + f.G + 4 by omega)
    omega
   have hw0 := wide (N := N) (M := f.M) (L := f.L) (G := f.G) (b := 0) (τ := 0) hN.1 hM.1 hL2 hG.1 (Int.le_refl _) (by omega)
   have hw1 := fun b τ (h1 : 0 ≤ b) (h2 : τ ≤ f.L + 2) => wide (N := N) (M := f.M) (L := f.L) (G := f.G) (b := b) (τ := τ) hN.1 hM.1 hL2 hG.1 h1 h2
   rw [← eN]
   generalize (4 * N + f.M + 2) * (f.L + f.G + 4) = X at *
   have hX : 0 < X := by
    have := Int.mul_nonneg (show 0 ≤ N - 0 by omega) (show 0 ≤ f.L + 3 by omega)
    omega
   rw [← h_w7, tHold]
   generalize h_w8 : tHold _ = w8
   generalize h_w9 : tHold _ = w9
   have fin : ∀ z' y F ow m n' e s' H', Lv C_Sender C_Ways C_Meter C_Taker H' f pH pL p2 ms 80 z' y F ow m n' e s' → n' ≤ n + X → (z'.T.length : Int) = N → z'.b = N → y.o = N → w9 { nx := fun _ H' => Q .non H', rt := Q } [some (V.ref a), v1, some (V.int f.M), some (V.int f.G), some (V.int f.R), some (V.int fi), some (V.int f.L), some (V.int mo), some (V.ref f.x), some (V.ref pH), some (V.ref pL), some (V.int n'), v12, v13, v14, v15, some (V.int N), some (V.int (n + X))] H' := by
    intro z' y F ow m n' e s' H' L hnX' eT eb eo
    rw [← h_w9, tHold]
    generalize h_w10 : tHold _ = w10
    exists L.L.S.hx, L.hH
    rw [if_neg (by omega)]
    have hG := L.L.W.hG
    rw [List.take_of_length_le (by omega)] at hG
    refine ⟨z'.T, hG, L.L.W.hT, L.L.W.den, ?_⟩
    have bt := L.L.J.B.bt
    have tm := L.L.J.tm
    have still : ∀ {n v H1 H2 z2}, GoX z' z2 n v H1 H2 → v = .non ∧ z2 = z' := fun ox => by
     rcases ox with ⟨hh, _⟩ | ⟨_, ⟨hh, _⟩ | ⟨_, ⟨hh, _⟩ | ⟨_, ⟨hh, _⟩ | ⟨_, e, e'⟩⟩⟩⟩
     ·omega
     ·unfold hryD at hh
      rw [decide_eq_false (by omega)] at hh
      cases hh
     ·unfold newM at hh
      rw [decide_eq_false (by omega)] at hh
      cases hh
     ·omega
     ·exact ⟨e', e⟩
    have J := L.L.J
    have sS := L.sS
    rw [← h_w10, tHold]
    exists L.L.S.hx
    have h3 := J.s3
    have h2 := J.s2
    have n0' := L.n0
    refine ⟨f.A, z', L.L.S, J.B, J.ck, by omega, by omega, fun v H1 z1 fr1 S1 ox => ?_⟩
    obtain ⟨rfl, rfl⟩ := still ox
    exists S1.hx
    refine ⟨f.A, _, S1, J.B, J.ck, by omega, by omega, fun v H2 z2 fr2 S2 ox2 => ?_⟩
    obtain ⟨rfl, rfl⟩ := still ox2
    exact q _
   walk_at "wps"
   obtain ⟨Wv, eW⟩ : ∃ Wv : Nat → St → Hp → Prop, Wv = fun k σ H' => ∃ z' y F ow m n' e s', Lv C_Sender C_Ways C_Meter C_Taker H' f pH pL p2 ms 80 z' y F ow m n' e s' ∧ (z'.T.length : Int) = N ∧ k = (n + X - n').toNat ∧ n ≤ n' ∧ n' ≤ n + X ∧ (n' = n ∨ ∃ τ, PB z' y H' f N n' τ ∧ (n' - n - X) + (N - z'.b) * (f.L + 3) + τ ≤ 0) ∧ σ = [some (V.ref a), v1, some (V.int f.M), some (V.int f.G), some (V.int f.R), some (V.int fi), some (V.int f.L), some (V.int mo), some (V.ref f.x), some (V.ref pH), some (V.ref pL), some (V.int n'), v12, v13, v14, v15, some (V.int N), some (V.int (n + X))] := ⟨_, rfl⟩
   refine ⟨Wv, ⟨(n + X - n).toNat, ?_⟩, ?_⟩
   ·rw [eW]
    exact ⟨z, y, F, ow, m, n, e, s', L.up (by rw [List.length_map]; omega), eN.symm, rfl, Int.le_refl _, by omega, .inl rfl, rfl⟩
   intro k σ H14 hW
   have hW0 := hW
   rw [eW] at hW0
   obtain ⟨z', y', F', ow', m', n', e', s'', L', eT, rfl, hn', hnX, hst, rfl⟩ := hW0
   have b0 := L'.L.J.B.b0
   have bt := L'.L.J.B.bt
   have tm := L'.L.J.tm
   have og := L'.L.W.p.og
   have o0 := L'.L.W.p.o0
   have gB := L'.L.W.p.gB
   have bg := L'.L.bg
   have mS := L'.mS
   have sS := L'.sS
   have eL := take_len (th := z'.T) (g := y'.o) o0 (show y'.o ≤ z'.t by omega) (by omega)
   have fin' : (n' < n + X → ¬ z'.b < N ∧ ¬ y'.o < N) → w9 { nx := fun _ H' => Q .non H', rt := Q } [some (V.ref a), v1, some (V.int f.M), some (V.int f.G), some (V.int f.R), some (V.int fi), some (V.int f.L), some (V.int mo), some (V.ref f.x), some (V.ref pH), some (V.ref pL), some (V.int n'), v12, v13, v14, v15, some (V.int N), some (V.int (n + X))] H14 := fun hc => by
    by_cases c : n' < n + X
    ·obtain ⟨c1, c2⟩ := hc c
     exact fin _ _ _ _ _ _ _ _ _ L' hnX eT (by omega) (by omega)
    ·rcases hst with hst | ⟨τ, hpb, hle⟩
     ·omega
     ·have t0 := hpb.pg.t0
      have eb : z'.b = N := by
       rcases Int.lt_or_eq_of_le (show z'.b ≤ N by omega) with c3 | c3
       ·have := Int.mul_le_mul_of_nonneg_right (show (1 : Int) ≤ N - z'.b by omega) (show 0 ≤ f.L + 3 by omega)
        omega
       ·exact c3
      have := hpb.o
      exact fin _ _ _ _ _ _ _ _ _ L' hnX eT eb (by omega)
   have body : n' < n + X → (z'.b < N ∨ y'.o < N) → w8 { nx := fun σ' H' => ∃ m', m' < (n + X - n').toNat ∧ Wv m' σ' H', rt := Q, bk := w9 { nx := fun _ H' => Q .non H', rt := Q }, ct := fun σ' H' => ∃ m', m' < (n + X - n').toNat ∧ Wv m' σ' H' } [some (V.ref a), v1, some (V.int f.M), some (V.int f.G), some (V.int f.R), some (V.int fi), some (V.int f.L), some (V.int mo), some (V.ref f.x), some (V.ref pH), some (V.ref pL), some (V.int (n' + 1)), v12, v13, v14, v15, some (V.int N), some (V.int (n + X))] H14 := fun c1 c2 => by
    rw [← h_w8, tHold]
    walk_at "wps"
    intro pN hpN
    have sm16 := same_upd (o := .lst [V.int 0, V.int 0, V.int 2, V.int 1, V.int 1]) hpN
    have hN16 := upd_same (H := H14) (a := pN) (o := .lst [V.int 0, V.int 0, V.int 2, V.int 1, V.int 1])
    have oN : ow' pN = none := L'.L.od.nn hpN
    have nN : pN ≠ f.pG ∧ pN ≠ f.A.pt := ⟨(ne_of_none L'.L.W.hG hpN).symm, (ne_of_none L'.L.S.ht hpN).symm⟩
    have L16 := L'.same sm16
    generalize upd H14 pN (.lst [V.int 0, V.int 0, V.int 2, V.int 1, V.int 1]) = H16 at *
    have LT := L16.L.turn
    refine ⟨f, z', y', F', ow', m', e', y'.g, s'' + 1, 0, 0, 2, 1, 1, L16.hH, L16.hL, rfl, by decide, oN, rfl, hG.1, by omega, nN, by rw [show n' + 1 - 1 = n' by omega]; exact LT, ⟨by omega, by omega⟩, fun z1 z7 y7 F7 ow7 e7 v Ha Hb H17 t17 L17 eT7 tr => ?_⟩
    have n2' := L16.n2
    have hl17 := t17.2 _ _ L16.hl n2'.1 n2'.2.1 L16.o2
    have LV17 : Lv C_Sender C_Ways C_Meter C_Taker H17 f pH pL p2 ms 80 z7 y7 F7 ow7 (m' + 6) (n' + 1) e7 (s'' + 1 + 1) := ⟨L17, t17.1 _ _ L16.hH, t17.1 _ _ L16.hL, hl17.1, hl17.2, n2', by rw [eT7]; exact L16.tT, by omega, by omega, by omega⟩
    refine ⟨(n + X - (n' + 1)).toNat, by omega, ?_⟩
    rw [eW]
    have hmono := tr.mono
    have eT' : (z7.T.length : Int) = N := by rw [eT7]; exact eT
    have tm7 := L17.J.tm
    have bt7 := L17.J.B.bt
    obtain ⟨τ1, hτ1, pb1⟩ := tr.any L17 hL2
    rw [eT'] at pb1
    refine ⟨z7, y7, F7, ow7, _, _, e7, _, LV17, eT', rfl, by omega, by omega, .inr ?_, rfl⟩
    rcases hst with hst | ⟨τ, hpb, hle⟩
    ·refine ⟨τ1, pb1, ?_⟩
     have := hw1 z7.b τ1 (by omega) hτ1
     omega
    ·have t0 := hpb.pg.t0
     by_cases cb : z7.b = z'.b
     ·have hbN : z'.b < z'.T.length := by
       rcases c2 with c2 | c2
       ·omega
       ·have := hpb.o
        omega
      have pb0 := hpb.same sm16
      rw [← eT] at pb0
      obtain ⟨τ2, hτ2, pb2⟩ := tr.wait L17 eT7 L'.L.J.ck pb0 hbN bg cb
      rw [eT'] at pb2
      exact ⟨τ2, pb2, by rw [cb]; omega⟩
     ·have := step_le (K := f.L + 3) (τ' := τ1) (show z'.b < z7.b by omega) (show z7.b ≤ N by omega) (by omega) t0 (by omega) hle
      exact ⟨τ1, pb1, by omega⟩
   exists L'.L.S.hx, L'.hH, L'.L.W.hG, eL
   by_cases c1 : n' < n + X
   ·rw [if_pos c1]
    by_cases c2 : z'.b < N
    ·rw [if_pos c2]
     exact ⟨_, fun _ _ h => h, body c1 (.inl c2)⟩
    ·rw [if_neg c2]
     by_cases c3 : y'.o < N
     ·rw [if_pos c3]
      exact ⟨_, fun _ _ h => h, body c1 (.inr c3)⟩
     ·rw [if_neg c3]
      exact fin' fun _ => ⟨c2, c3⟩
   ·rw [if_neg c1]
    exact fin' fun c => absurd c c1
  ·exact h.elim
end
theorem fin {P : Program} {w : World} {K : PySem.W.Frag} {h : Heap} {mg : Str → Option Value} {fa : Addr} {C_Meter C_Ways C_Sender C_Taker : Addr} (KX : K.In h) (G : h.Ns mainGlobals mg) (hmg : mg "law" = some (.ref fa)) (T : Txt K mg C_Meter C_Ways C_Sender C_Taker) :
  ∃ fd : FuncData, (∀ (s : Shared) (u : Value), BindsTo s fd ⟨[u], []⟩ [("_law_script", u)]) ∧ ∀ base : Heap, K.In base → base.Ns mainGlobals mg → FnOk P w K mg base CX0 6 fa fd ["_law_script"] (spLaw K) :=
 law_fin hmg T.d_law bd_law fun base => ok_law T
end K59
open PySem PySem.W PyProof.Rows
set_option maxRecDepth 100000 in
set_option maxHeartbeats 0 in
theorem PySem.Challenge.cw_slowroad_k59_whole_all_comes_holds : PySem.Challenge.rw_slowroad_k59_whole_all_comes.Holds := by
 w_on; o_law
 refine holds_open (q := K59.hdView) (loose := []) (Xt := fun s => xlAt K59.hdView [] s && recOk (RowW.records (OpenRow.toRowW (OpenLaw.row PySem.Challenge.rw_slowroad_k59_whole_all_comes))) s) (XP := XL K59.hdView []) (Yf := Hook.obs (kHook K59.hdK K59.hdAdr K59.hd_he)) (Ya := Hook.val (kHook K59.hdK K59.hdAdr K59.hd_he)) (YP := Hook.says (kHook K59.hdK K59.hdAdr K59.hd_he)) (N := 4834) K59.hd_hl (Hook.of (kHook K59.hdK K59.hdAdr K59.hd_he)) (Hook.keeps (kHook K59.hdK K59.hdAdr K59.hd_he)) (fun s e => xl_of s (Bool.and_eq_true_iff.mp e).1) XL.keeps (by rfl) (by rfl) (by rfl) (fun s e => recFacts_of (Bool.and_eq_true_iff.mp e).2) (by rfl) (by first | assumption | decide +kernel) (by decide +kernel) ⟨rfl, rfl, rfl, rfl, rfl, by decide +kernel⟩ ?hw ?hc
 case hw => w_witness2
 k_fill
 refine L2.law_walk (l := PySem.Challenge.rw_slowroad_k59_whole_all_comes) (k := 6) (x := "_law_script") rfl rfl ⟨rfl, by decide, by decide⟩ (fun w h Y => PySem.W.kIn_of Y) ?F
 case F =>
  intro w mg fa h KX G hmg
  refine' K59.fin KX G hmg ?TT
  case TT =>
   refine' K59.Txt.mk ?k_Meter ?n_Meter_most ?n_Meter_window ?n_Meter_knee ?n_Meter_counted ?k_Ways ?n_Ways_longest ?n_Ways_smooth ?n_Ways_spread ?n_Ways_wait ?k_Sender ?n_Sender_ring ?n_Sender_ways ?n_Sender_meter ?n_Sender_things ?n_Sender_base ?n_Sender_top ?n_Sender_edge ?n_Sender_clock ?n_Sender_base_hurried ?n_Sender_known_places ?n_Sender_first_turns ?n_Sender_gone_again ?k_Taker ?n_Taker_ring ?n_Taker_room ?n_Taker_got ?n_Taker_out ?n_Taker_kept ?d_Meter___init__ ?d_Meter_known ?d_Meter_know_one ?d_Meter_half ?d_Meter_ran_out ?d_Meter_hurried ?d_ahead ?d_lowest ?d_Ways___init__ ?d_Ways_measured ?d_Ways_next_spread ?d_Ways_next_smooth ?d_Ways_least_wait ?d_Ways_ran_out ?d_Sender___init__ ?d_Sender_put ?d_Sender_many ?d_Sender_heard ?d_Sender_grow_base ?d_Sender_note_held ?d_Sender_newly_known ?d_Sender_known_above_base ?d_Sender_under_way ?d_Sender_thing_waits ?d_Sender_clock_is_out ?d_Sender_hurry_is_due ?d_Sender_new_may_go ?d_Sender_go ?d_Sender_set_clock ?d_Sender_go_again ?d_Sender_go_new ?d_Sender_ask_for_room ?d_Taker___init__ ?d_Taker_room_left ?d_Taker_take ?d_Taker_stand_in_order ?d_Taker_answer ?d_Taker_read ?d__law_cell_at ?d__law_mixed ?d__law_ring ?d__law_put_on ?d__law_due ?d__law_turn ?d__law_alike ?d_law ?b_abs ?b_isinstance ?b_len ?b_list ?b_max ?b_min ?b_range ?b_str ?b_tuple ?c_WAIT_LEAST ?c_KNOWN_TO_HURRY
   case k_Meter | k_Ways | k_Sender | k_Taker => refine' L2.klsat_mk KX G ?a ?pg ?hd ?po ?sa ?mk ?kc; (case a => k_is); (case pg => k_is); (case hd => k_is); (case po => k_is); (case sa => k_is); (case mk => k_is); (case kc => k_is)
   case n_Meter_most | n_Meter_window | n_Meter_knee | n_Meter_counted | n_Ways_longest | n_Ways_smooth | n_Ways_spread | n_Ways_wait | n_Sender_ring | n_Sender_ways | n_Sender_meter | n_Sender_things | n_Sender_base | n_Sender_top | n_Sender_edge | n_Sender_clock | n_Sender_base_hurried | n_Sender_known_places | n_Sender_first_turns | n_Sender_gone_again | n_Taker_ring | n_Taker_room | n_Taker_got | n_Taker_out | n_Taker_kept => refine' L2.noattr_mk ?a; (case a => k_is)
   case d_Meter___init__ | d_Meter_known | d_Meter_know_one | d_Meter_half | d_Meter_ran_out | d_Meter_hurried | d_Ways___init__ | d_Ways_measured | d_Ways_next_spread | d_Ways_next_smooth | d_Ways_least_wait | d_Ways_ran_out | d_Sender___init__ | d_Sender_put | d_Sender_many | d_Sender_heard | d_Sender_grow_base | d_Sender_note_held | d_Sender_newly_known | d_Sender_known_above_base | d_Sender_under_way | d_Sender_thing_waits | d_Sender_clock_is_out | d_Sender_hurry_is_due | d_Sender_new_may_go | d_Sender_go | d_Sender_set_clock | d_Sender_go_again | d_Sender_go_new | d_Sender_ask_for_room | d_Taker___init__ | d_Taker_room_left | d_Taker_take | d_Taker_stand_in_order | d_Taker_answer | d_Taker_read => refine' L2.methat_mk ?a ?i ?l ?c ?k; (case a => k_is); (case i => k_is); (case l => k_is); (case c => k_is); (case k => k_is)
   case d_ahead | d_lowest | d__law_cell_at | d__law_mixed | d__law_ring | d__law_put_on | d__law_due | d__law_turn | d__law_alike | d_law => refine' L2.defat_mk KX G ?a ?l ?c ?k; (case a => k_is); (case l => k_is); (case c => k_is); (case k => k_is)
   case b_abs | b_isinstance | b_len | b_list | b_max | b_min | b_range | b_str | b_tuple => refine' PySem.W.mg_none_of KX G ?a; (case a => k_is)
   case c_WAIT_LEAST | c_KNOWN_TO_HURRY => refine' ⟨_, PySem.W.mg_of KX G ?a, ?r⟩; (case a => k_is); (case r => exact ⟨_, rfl⟩)
#print axioms PySem.Challenge.cw_slowroad_k59_whole_all_comes_holds
