import PyProof.Rows.All
import Wide.All
import OpenK.AllK
import Wide.FinOn
import PyProof.EqAt
import PyProof.EqKinds
import PyProof.TupleCall
import PyProof.NeKinds
import PyProof.Rows.BitMore
import PyProof.FitsBits
import PyProof.Rows.TupAssign
import PyProof.ListRange
import PyProof.Rows.ZipGen
import PyProof.StationsW
import PyProof.ExcInit
import PyProof.ExcClass2
import PyProof.RulesTry
import PyProof.ExcBaseAll.ValueError
import PyProof.InstStoreFacts
import PyProof.RulesAs
import PyProof.RulesDel
import PyProof.ExcArgs
import KE.KUnpack
import PyProof.Draws
import PyProof.EnumMake
import PyProof.StrLawsIn
import KE.KMinBuiltin
import Lean
import PySem.Challenge.RW_slowroad_k70_bad_wishes
set_option maxRecDepth 100000
set_option maxHeartbeats 4000000
set_option Elab.async false
set_option linter.all false
set_option compiler.extract_closed false
namespace L2
open PySem PySem.Spec PyProof.Rows
noncomputable abbrev Key:=Sum Int Str
noncomputable def OX:Key→Value→Bool
 | .inl k,v=>Value.isInt k v
 | .inr x,v=>Value.isStrOf x v
noncomputable def afv (w:World):Key→Int
 | .inl k=>hashInt k
 | .inr x=>hashStr w x
theorem bX: ∀{k:Key} {v:Value},OX k v=true→(∃i t,k=Sum.inl i∧v=Value.int i t)∨(∃x t,k=Sum.inr x∧v=Value.str x t)
 | .inl i,v,h=>by
  obtain ⟨t,e⟩:=Value.isInt_shape (k:=i) (v:=v) h
  exact .inl ⟨i,t,rfl,e⟩
 | .inr x,v,h=>by
  obtain ⟨t,e⟩:=Value.isStrOf_shape (x:=x) (v:=v) h
  exact .inr ⟨x,t,rfl,e⟩
theorem QK (a b:Int):decide ((Sum.inl a:Key)=Sum.inl b)=(a == b):=by
 by_cases e:a=b
 ·subst e;simp
 ·
  have h: ¬(Sum.inl a:Key)=Sum.inl b:=fun q=>e (Sum.inl.inj q)
  rw [decide_eq_false h]
  exact (beq_eq_false_iff_ne.mpr e).symm
theorem QH (a b:Str):decide ((Sum.inr a:Key)=Sum.inr b)=decide (a=b):=by
 by_cases e:a=b
 ·subst e;simp
 ·
  have h: ¬(Sum.inr a:Key)=Sum.inr b:=fun q=>e (Sum.inr.inj q)
  rw [decide_eq_false h,decide_eq_false e]
theorem QJ (a:Int) (b:Str):decide ((Sum.inl a:Key)=Sum.inr b)=false:=decide_eq_false (fun q=>nomatch q)
theorem QI (a:Str) (b:Int):decide ((Sum.inr a:Key)=Sum.inl b)=false:=decide_eq_false (fun q=>nomatch q)
noncomputable def EX (prog:Program) (w:World):PySem.KeyKind prog w Key where
 is:=OX
 hash:=afv w
 inj:=fun v a b ha hb=>by
  rcases bX ha with ⟨i,t,rfl,rfl⟩|⟨x,t,rfl,rfl⟩
  ·
   rcases bX hb with ⟨j,u,rfl,e⟩|⟨y,u,rfl,e⟩
   ·injection e with e1 _;rw [e1]
   ·exact nomatch e
  ·
   rcases bX hb with ⟨j,u,rfl,e⟩|⟨y,u,rfl,e⟩
   ·exact nomatch e
   ·injection e with e1 _;rw [e1]
 byValue:=fun k v h=>by
  rcases bX h with ⟨i,t,rfl,rfl⟩|⟨x,t,rfl,rfl⟩<;>rfl
 pyHash:=fun hv h=>by
  rcases bX hv with ⟨i,t,rfl,rfl⟩|⟨x,t,rfl,rfl⟩
  ·exact wpAny_pyHash_int h
  ·exact wpAny_pyHash_str h
 eqBool:=fun hu hv h=>by
  rcases bX hu with ⟨i,t,rfl,rfl⟩|⟨x,t,rfl,rfl⟩
  ·
   rcases bX hv with ⟨j,u,rfl,rfl⟩|⟨y,u,rfl,rfl⟩
   ·rw [QK] at h;exact wpAny_eqBool_int h
   ·rw [QJ] at h;exact SeqAt.EqAt.int_str i t y u _ _ _ _ h
  ·
   rcases bX hv with ⟨j,u,rfl,rfl⟩|⟨y,u,rfl,rfl⟩
   ·rw [QI] at h;exact SeqAt.EqAt.str_int x t j u _ _ _ _ h
   ·rw [QH] at h;exact wpAny_eqBool_str h
 «strs» :=fun k x t v h=>by
  rcases bX h with ⟨i,u,rfl,e⟩|⟨y,u,rfl,e⟩
  ·exact nomatch e
  ·
   injection e with e1 _
   subst e1
   cases v<;>rfl
inductive V where
 |non|bl (b:Bool)|int (i:Int)|str (x:Str)|byt (b:Array UInt8)|flt (b:UInt64)|ref (a:Addr)|ty (n:String)
 deriving DecidableEq
def RelV:V→Value→Prop
 | .non,u=>u=Value.none
 | .bl b,u=>u=Value.bool b
 | .int i,u=> ∃t,u=Value.int i t
 | .str x,u=> ∃t,u=Value.str x t
 | .byt b,u=> ∃t,u=Value.bytes b t
 | .flt b,u=> ∃t,u=Value.float b t
 | .ref a,u=>u=Value.ref a
 | .ty n,u=>u=Value.type n
abbrev Vals:List V→List Value→Prop:=Paired RelV
theorem Vals.length {xs:List V} {us:List Value} (r:Vals xs us):xs.length=us.length:=Paired.length r
theorem Vals.get: ∀{xs:List V} {us:List Value} {i:Nat} {x:V},Vals xs us→xs[i]?=some x→∃u,us[i]?=some u∧RelV x u
 |_,_,_,_,.nil,e=>by simp at e
 |_,_,0,_,.cons r _,e=>by simp at e;subst e;exact ⟨_,rfl,r⟩
 |_,_,i+1,x,.cons _ t,e=>by
  obtain ⟨u,h1,h2⟩:=Vals.get (i:=i) (x:=x) t (by simpa using e)
  exact ⟨u,by simpa using h1,h2⟩
theorem Vals.append: ∀{xs ys:List V} {us ws:List Value},Vals xs us→Vals ys ws→Vals (xs++ys) (us++ws)
 |_,_,_,_,.nil,s=>s
 |_,_,_,_,.cons r t,s=> .cons r (Vals.append t s)
theorem Vals.take: ∀{xs:List V} {us:List Value} (n:Nat),Vals xs us→Vals (xs.take n) (us.take n)
 |_,_,0,_=> .nil
 |_,_,_+1,.nil=> .nil
 |_,_,n+1,.cons r t=> .cons r (Vals.take n t)
theorem Vals.drop: ∀{xs:List V} {us:List Value} (n:Nat),Vals xs us→Vals (xs.drop n) (us.drop n)
 |_,_,0,r=>r
 |_,_,_+1,.nil=> .nil
 |_,_,n+1,.cons _ t=>Vals.drop n t
def xF:Option V→Option Value→Prop
 |some v,some u=>RelV v u
 |none,none=>True
 |_,_=>False
def KV {κ:Type}:List (κ×V)→List (κ×Value)→Prop:=Paired fun (p:κ×V) (q:κ×Value)=>p.1=q.1∧RelV p.2 q.2
noncomputable def kV:Key→V
 | .inl i=> .int i
 | .inr x=> .str x
inductive HO where

 |lst (xs:List V)

 |tup (xs:List V)

 |dK (kvs:List (Key×V))|dT (kvs:List (List Key×V))

 |set (S:Int→Bool) (n:Nat)

 |ins (C dx:Addr) (fs:List (Str×V))

 |own (x:Addr)

 |xd (fs:List (Str×V))

 |met (f x:Addr)

 |rng (lo hi:Int)

 |frz (o:Obj) (u:HO)

 |tbl (ps:Array Value)

 |ext (φ:Heap→Prop)
noncomputable abbrev Hp:=Addr→Option HO
noncomputable def upd (H:Hp) (a:Addr) (o:HO):Hp:=fun b=>if b=a then some o else H b
theorem aa {H:Hp} {a:Addr} {o:HO}:upd H a o a=some o:=by unfold upd;rw [if_pos rfl]
theorem ak {H:Hp} {a b:Addr} {o:HO} (h:b≠a):upd H a o b=H b:=by unfold upd;rw [if_neg h]
theorem Ew {H:Hp} {a:Addr} {o u:HO}:upd (upd H a o) a u=upd H a u:=by
 funext b;unfold upd;split<;>rfl
theorem jY {H:Hp} {a b:Addr} {o u:HO} (h:H a=some o) (h':H b=some u) (d:o≠u):a≠b:=by
 intro e;subst e;rw [h] at h';exact d (Option.some.inj h')
theorem av {H:Hp} {a b:Addr} {o:HO} (h:H a=some o) (h':H b=none):a≠b:=by
 intro e;subst e;rw [h] at h';cases h'
section
variable (P:Program) (w:World)
def bW (H:Hp) (h:Heap) (a:Addr):HO→Prop
 | .lst xs=>xs.length≤sizeLine∧∃(its:List Value) (n:Nat),Vals xs its∧h.get? a=some {cls:= .type "list",data:= .seq its.toArray n}
 | .tup xs=>xs.length≤sizeLine∧∃its:List Value,Vals xs its∧IsTup h a its.toArray
 | .dK kvs=>kvs.length≤sizeLine∧(a == sysModules)=false∧∃vs,KV kvs vs∧h.DictOf (EX P w) a vs
 |
   .dT kvs=>kvs.length≤sizeLine∧(a == sysModules)=false∧∃xs:List (List Key×Addr×Value),
   Paired (fun (p:List Key×V) (q:List Key×Addr×Value)=>p.1=q.1∧H q.2.1=some (.tup (p.1.map kV))∧RelV p.2 q.2.2) kvs xs∧
   ∃o es ep,h.get? a=some o∧o.ExactDict∧o.data = .dict es ep∧es.toList=xs.map (entryOfKey (tupleKind (EX P w)))∧(xs.map (·.1)).Nodup
 | .set S n=>h.SetOf (intKind P w) a S n
 |
   .ins C dx fs=>H dx=some (.own a)∧fs.length≤1000∧dx≠a∧h.get? a=some (PySem.W.instObj C dx)∧
   ∃mA,h.Ns1 dx mA∧(∀f,xF (fs.lookup f) (mA f))∧PySem.Within mA (fs.map (·.1))
 | .own _=> ∃o,h.get? a=some o
 | .xd fs=> ∃mA,h.Ns1 a mA∧∀f,xF (fs.lookup f) (mA f)
 | .rng lo hi=> ∃t u v,h.get? a=some {cls:= .type "range",data:= .fields #[.int lo t,.int hi u,.int 1 v]}
 | .frz o u=>h.get? a=some o∧bW H h a u
 | .tbl ps=>h.get? a=some {cls:= .none,data:= .fields ps}
 | .met f x=>h.get? a=some (PySem.W.methodObj (.ref f) (.ref x))
 | .ext φ=>φ h∧(∃o,h.get? a=some o)∧∀h1 h2:Heap,φ h1→(∀o,h1.get? a=some o→h2.get? a=some o)→φ h2
def xG (H:Hp) (h:Heap):Prop:= ∀a o,H a=some o→bW P w H h a o
end
section
variable {P:Program} {w:World} {H H':Hp} {h h':Heap} {a:Addr} {o:HO}
theorem bW.lt (x:bW P w H h a o):a<h.objs.size:=by
 cases o with
 |lst xs=>obtain ⟨_,_,_,_,e⟩:=x;exact Heap.lt_size e
 |tup xs=>obtain ⟨_,_,_,p⟩:=x;exact p.lt
 |dK kvs=>obtain ⟨_,_,_,_,o,_,_,e,_⟩:=x;exact Heap.lt_size e
 |dT kvs=>obtain ⟨_,_,_,_,o,_,_,e,_⟩:=x;exact Heap.lt_size e
 |set S n=>obtain ⟨o,_,_,_,e,_⟩:=x;exact Heap.lt_size e
 |ins C dx fs=>obtain ⟨_,_,_,e,_⟩:=x;exact Heap.lt_size e
 |own y=>obtain ⟨_,e⟩:=x;exact Heap.lt_size e
 |xd fs=>obtain ⟨_,⟨_,_,_,e,_⟩,_⟩:=x;exact Heap.lt_size e
 |rng lo hi=>obtain ⟨_,_,_,e⟩:=x;exact Heap.lt_size e
 |frz ob u=>obtain ⟨e,_⟩:=x;exact Heap.lt_size e
 |tbl ps=>exact Heap.lt_size (show h.get? a=some _ from x)
 |met f y=>exact Heap.lt_size (show h.get? a=some _ from x)
 |ext φ=>obtain ⟨_,⟨_,e⟩,_⟩:=x;exact Heap.lt_size e
theorem Paired.ZZ {α β:Type} {F G:α→β→Prop}: ∀{l₁:List α} {l₂:List β},Paired F l₁ l₂→(∀a b,F a b→G a b)→Paired G l₁ l₂
 |_,_,.nil,_=> .nil
 |_,_,.cons r t,f=> .cons (f _ _ r) (Paired.ZZ t f)
theorem bW.stay (x:bW P w H h a o) (k: ∀b u,(b=a∨H b=some (.own a))→h.get? b=some u→h'.get? b=some u)
  (ho: ∀b,H b=some (.own a)→H' b=some (.own a)) (ht: ∀b xs,H b=some (.tup xs)→H' b=some (.tup xs)):bW P w H' h' a o:=by
 induction o with
 |lst xs=>obtain ⟨z,its,n,r,e⟩:=x;exact ⟨z,its,n,r,k _ _ (.inl rfl) e⟩
 |tup xs=>obtain ⟨z,its,r,ob,e,c⟩:=x;exact ⟨z,its,r,ob,k _ _ (.inl rfl) e,c⟩
 |dK kvs=>obtain ⟨z,y,vs,r,ob,es,ep,e,c⟩:=x;exact ⟨z,y,vs,r,ob,es,ep,k _ _ (.inl rfl) e,c⟩
 |dT kvs=>
  obtain ⟨z,y,xs,r,ob,es,ep,e,c⟩:=x
  exact ⟨z,y,xs,Paired.ZZ r fun p q z=>⟨z.1,ht _ _ z.2.1,z.2.2⟩,ob,es,ep,k _ _ (.inl rfl) e,c⟩
 |set S n=>obtain ⟨ob,es,ep,t,e,c⟩:=x;exact ⟨ob,es,ep,t,k _ _ (.inl rfl) e,c⟩
 |ins C dx fs=>
  obtain ⟨d,z,ne,e,mA,⟨od,es,ep,e2,c⟩,r⟩:=x
  exact ⟨ho _ d,z,ne,k _ _ (.inl rfl) e,mA,⟨od,es,ep,k _ _ (.inr d) e2,c⟩,r⟩
 |own y=>obtain ⟨ob,e⟩:=x;exact ⟨ob,k _ _ (.inl rfl) e⟩
 |xd fs=>obtain ⟨mA,⟨od,es,ep,e,c⟩,r⟩:=x;exact ⟨mA,⟨od,es,ep,k _ _ (.inl rfl) e,c⟩,r⟩
 |rng lo hi=>obtain ⟨t,u,v,e⟩:=x;exact ⟨t,u,v,k _ _ (.inl rfl) e⟩
 |frz ob u ih=>obtain ⟨e,q⟩:=x;exact ⟨k _ _ (.inl rfl) e,ih q⟩
 |tbl ps=>
  have e:h.get? a=some {cls:= .none,data:= .fields ps}:=x
  show h'.get? a=some {cls:= .none,data:= .fields ps}
  exact k a _ (.inl rfl) e
 |met f y=>
  have e:h.get? a=some (PySem.W.methodObj (.ref f) (.ref y)):=x
  show h'.get? a=some (PySem.W.methodObj (.ref f) (.ref y))
  exact k a _ (.inl rfl) e
 |ext φ=>obtain ⟨p,⟨o,e⟩,st⟩:=x;exact ⟨st _ _ p fun o q=>k _ _ (.inl rfl) q,⟨o,k _ _ (.inl rfl) e⟩,st⟩
theorem xG.lt (x:xG P w H h) (e:H a=some o):a<h.objs.size:=(x a o e).lt
theorem xG.fresh (x:xG P w H h) (e:h.objs.size≤a):H a=none:=by
 cases q:H a with
 |none=>rfl
 |some u=>exact absurd (Nat.lt_of_lt_of_le (x.lt q) e) (Nat.lt_irrefl _)
theorem xG.kept (x:xG P w H h) (k: ∀b u,h.get? b=some u→h'.get? b=some u):xG P w H h':=fun a o e=>
 (x a o e).stay (fun b u _ q=>k b u q) (fun _ q=>q) fun _ _ q=>q
theorem xG.laid (x:xG P w H h) (k: ∀b u,h.get? b=some u→h'.get? b=some u) (hp:h.objs.size≤a) (new:bW P w (upd H a o) h' a o):xG P w (upd H a o) h':=fun b u e=>by
 have hn:=x.fresh hp
 by_cases hb:b=a
 ·subst hb;rw [aa] at e;cases e;exact new
 ·
  rw [ak hb] at e
  exact (x b u e).stay (fun c v _ q=>k c v q) (fun c q=>by rw [ak (av q hn)];exact q) fun c xs q=>by rw [ak (av q hn)];exact q
end
def Rd (H:Hp) (a:Addr) (u:HO):Prop:=H a=some u∨∃o,H a=some (.frz o u)
theorem Rd.ok {P:Program} {w:World} {H:Hp} {h:Heap} {a:Addr} {u:HO} (r:Rd H a u) (x:xG P w H h):bW P w H h a u:=by
 rcases r with r|⟨o,r⟩
 ·exact x a u r
 ·
  obtain ⟨_,q⟩:=x a _ r
  exact q
def Mut:Option HO→Prop
 |some (.lst _)=>True
 |some (.dK _)=>True
 |some (.dT _)=>True
 |some (.set _ _)=>True
 |some (.ins _ _ _)=>True
 |some (.ext _)=>True
 |_=>False
section
variable {P:Program} {w:World} {H:Hp} {h h':Heap} {x e:Addr} {o':HO}
theorem xG.write (ok:xG P w H h) (mu:Mut (H x)) (he:e=x∨H e=some (.own x)) (k: ∀b u,b≠e→h.get? b=some u→h'.get? b=some u) (heo: ∃u,h'.get? e=some u)
  (new:bW P w (upd H x o') h' x o'):xG P w (upd H x o') h':=fun b u q=>by
 have nown: ∀c y,H c=some (.own y)→c≠x:=fun c y r z=>by subst z;rw [r] at mu;exact mu
 have ntup: ∀c xs,H c=some (.tup xs)→c≠x:=fun c xs r z=>by subst z;rw [r] at mu;exact mu
 by_cases hb:b=x
 ·subst hb;rw [aa] at q;cases q;exact new
 ·
  rw [ak hb] at q
  by_cases hbe:b=e
  ·have q':H b=some (.own x):=by
    rcases he with z|z
    ·exact absurd (hbe.trans z) hb
    ·rw [hbe];exact z
   rw [q] at q';cases q'
   obtain ⟨v,hv⟩:=heo
   exact ⟨v,by rw [hbe];exact hv⟩
  ·
   refine (ok b u q).stay (fun c v hc r=>k c v ?_ r) (fun c r=>by rw [ak (nown c b r)];exact r) fun c xs r=>by rw [ak (ntup c xs r)];exact r
   rcases hc with rfl|hc
   ·exact hbe
   ·
    rintro rfl
    rcases he with z|z
    ·exact nown c b hc z
    ·rw [hc] at z;cases z;exact hb rfl
end
structure Un (fs ex:List Addr) (H H':Hp) (h h':Heap):Prop where
 keep: ∀b o,h.get? b=some o→H b=none→b ∉ fs→b ∉ ex→h'.get? b=some o
 slot: ∀b o,h.get? b=some o→H b=none→b∈fs→b ∉ ex→∃sl,h'.get? b=some {o with slots:=sl}
 free: ∀b o,h.get? b=some o→H b=none→b ∉ ex→H' b=none
 there: ∀b o,h.get? b=some o→b ∉ ex→∃o',h'.get? b=some o'
 tups: ∀b xs,H b=some (.tup xs)→H' b=some (.tup xs)
 frzs: ∀b o u,H b=some (.frz o u)→H' b=some (.frz o u)
 tbls: ∀b ps,H b=some (.tbl ps)→∃more,H' b=some (.tbl (ps++more))
section
variable {fs fs' ex ex':List Addr} {H H1 H2:Hp} {h h1 h2 h':Heap} {a x e:Addr} {o:HO}
theorem Un.any (u:Un fs ex H H1 h h1) {b:Addr} {ob:Obj} (q:h.get? b=some ob) (n:H b=none) (hx:b ∉ ex): ∃sl,h1.get? b=some {ob with slots:=sl}:=by
 by_cases hb:b∈fs
 ·exact u.slot b ob q n hb hx
 ·exact ⟨ob.slots,u.keep b ob q n hb hx⟩
theorem Un.kept (k: ∀b u,h.get? b=some u→h'.get? b=some u):Un fs ex H H h h':=
 ⟨fun b ob q _ _ _=>k b ob q,fun b ob q _ _ _=>⟨ob.slots,k b ob q⟩,fun _ _ _ n _=>n,fun b ob q _=>⟨ob,k b ob q⟩,fun _ _ q=>q,fun _ _ _ q=>q,fun _ ps q=>⟨#[],by rw [q];simp⟩⟩
theorem Un.refl:Un fs ex H H h h:=Un.kept fun _ _ q=>q
theorem Un.laid (k: ∀b u,h.get? b=some u→h'.get? b=some u) (hp:h.objs.size≤a) (hn:H a=none):Un fs ex H (upd H a o) h h' where
 keep:=fun b u q _ _ _=>k b u q
 slot:=fun b u q _ _ _=>⟨u.slots,k b u q⟩
 free:=fun b u q n _=>by rw [ak (Nat.ne_of_lt (Nat.lt_of_lt_of_le (Heap.lt_size q) hp))];exact n
 there:=fun b u q _=>⟨u,k b u q⟩
 tups:=fun b xs q=>by rw [ak (av q hn)];exact q
 frzs:=fun b u xs q=>by rw [ak (av q hn)];exact q
 tbls:=fun b ps q=>⟨#[],by rw [ak (av q hn),q];simp⟩
theorem Un.write (mu:Mut (H x)) (he:e=x∨H e=some (.own x)) (k: ∀b u,b≠e→h.get? b=some u→h'.get? b=some u) (heo: ∃u,h'.get? e=some u):Un fs ex H (upd H x o) h h':=by
 have hx: ∀b,H b=none→b≠x:=fun b n z=>by subst z;rw [n] at mu;exact mu
 have hb: ∀b,H b=none→b≠e:=fun b n z=>by
  subst z
  rcases he with r|r
  ·exact hx b n r
  ·rw [n] at r;cases r
 have hm: ∀b u,H b=some u→¬Mut (some u)→b≠x:=fun b u q nm z=>by subst z;rw [q] at mu;exact nm mu
 refine ⟨fun b u q n _ _=>k b u (hb b n) q,fun b u q n _ _=>⟨u.slots,k b u (hb b n) q⟩,fun b u q n _=>by rw [ak (hx b n)];exact n,fun b u q _=>?_,
  fun b xs q=>by rw [ak (hm b _ q fun z=>z)];exact q,fun b u xs q=>by rw [ak (hm b _ q fun z=>z)];exact q,fun b ps q=>⟨#[],by rw [ak (hm b _ q fun z=>z),q];simp⟩⟩
 by_cases hbe:b=e
 ·subst hbe;exact heo
 ·exact ⟨u,k b u hbe q⟩
end
noncomputable def trk (h:Heap) (H:Hp):List Addr:=(List.range h.objs.size).filter fun a=>(H a).isSome
noncomputable def BE (h:Heap) (H:Hp):Heap:=PySem.W.hideAll h (trk h H)
theorem Gy (h:Heap) (H:Hp):(BE h H).objs.size=h.objs.size:=PySem.W.hideAll_size _ _
theorem Jl {h:Heap} {H:Hp} {b:Addr} {o:Obj} (e:h.get? b=some o) (n:H b=none):(BE h H).get? b=some o:=
 PySem.W.hideAll_get _ e fun hm=>by
  have q:(H b).isSome=true:=(List.mem_filter.mp hm).2
  rw [n] at q;simp at q
theorem KZ {h:Heap} {H:Hp} {b:Addr} {o:Obj} (e:(BE h H).get? b=some o):h.get? b=some o∧H b=none:=by
 have e':h.get? b=some o:=PySem.W.of_hideAll (trk h H) e
 refine ⟨e',?_⟩
 cases q:H b with
 |none=>rfl
 |some x=>
  have hm:b∈trk h H:=List.mem_filter.mpr ⟨List.mem_range.mpr (Heap.lt_size e'),by simp [q]⟩
  have z:(BE h H).get? b=none:=PySem.W.hideAll_none (trk h H) hm
  rw [z] at e;cases e
structure Mod (K:PySem.W.Frag) (mg:Str→Option Value) (base:Heap):Prop where
 kin:K.In base
 glob:base.Ns mainGlobals mg
 blt: ∃mb,base.Ns builtinsNs mb∧∀x:Str,x≠ "__name__" →mb x=bootBuiltins x
 nolimit:base.NoLimit
structure Cx where
 prog:Program
 w:World
 K:PySem.W.Frag
 mg:Str→Option Value
 base:Heap
 A:Around
 N:List Str
 s₀:Shared
 H₀:Hp
 env:Env
 outer:List Env
 stack:List Env
 ex:List Addr
 fn:Str→Bool
 calm:Bool
 pn:List (Addr×Obj)
 xe:Value→Shared→Prop
noncomputable def frs (l:List Env):List Addr:=l.filterMap (·.frame)
noncomputable abbrev Cx.fs (X:Cx):List Addr:=frs X.outer
def Vis (sc:Scope) (x:Str):Prop:=sc.names.lookup x=some .local∨sc.names.lookup x=some .cell∨sc.names.lookup x=some .free
def Loc (sc:Scope) (x:Str):Prop:=sc.names.lookup x=some .local∨sc.names.lookup x=some .cell
def Look (env:Env) (h:Heap) (m:Str→Option Value) (x:Str) (u:Value):Prop:=
 (env.kindOf x=some .local∧m x=some u)∨((env.kindOf x=some .cell∨env.kindOf x=some .free)∧∃c,env.cells.lookup x=some c∧h.IsCell c (some u))
structure Cx.Ok (X:Cx):Prop where
 mod:Mod X.K X.mg X.base
 kind:X.env.scope.kind = .function
 glob:X.env.globals=mainGlobals
 blt:X.env.builtins=builtinsNs
 above:X.s₀.heap.objs.size≤X.env.locals
 inj: ∀x y c,X.env.cells.lookup x=some c→X.env.cells.lookup y=some c→x=y
 has: ∀x,(X.env.kindOf x=some .cell∨X.env.kindOf x=some .free)→∃c,X.env.cells.lookup x=some c
 cab: ∀x c,X.fn x=true→X.env.cells.lookup x=some c→X.s₀.heap.objs.size≤c
 hd:X.calm=true→X.A.handled=none
 frames:X.A.frames=some X.stack
 stk:X.stack=X.outer∨(X.stack=X.env::X.outer∧X.env.frame=some X.env.locals)
 exf: ∀b∈X.ex,b≠X.env.locals∧∀x c,X.env.cells.lookup x=some c→c≠b
 bs: ∀b o,X.base.get? b=some o→X.s₀.heap.get? b=some o∧X.H₀ b=none
 bsz:X.base.objs.size≤X.s₀.heap.objs.size
 noex: ∀b o,X.base.get? b=some o→b ∉ X.ex
 exfs: ∀b∈X.ex,b ∉ X.fs
 funs:X.s₀.heap.FunFrames X.base X.outer
 frf: ∀b∈X.fs,X.H₀ b=none
structure Inv (X:Cx) (pins:List (Addr×Obj)) (σ:List (Option V)) (H:Hp) (s:Shared):Prop where
 ok:X.Ok
 os:s.os=X.s₀.os
 bare:AllBare s.gens
 base:Un X.fs X.ex X.H₀ H X.s₀.heap s.heap
 loc: ∃m,s.heap.Ns X.env.locals m∧∀(i:Nat) (x:Str) (v:V),X.N[i]?=some x→σ[i]?=some (some v)→Vis X.env.scope x→∃u,RelV v u∧Look X.env s.heap m x u
 cell: ∀x c,X.env.cells.lookup x=some c→∃v,s.heap.IsCell c v
 free:H X.env.locals=none
 kY: ∀x c,X.env.cells.lookup x=some c→H c=none
 pin: ∀p∈X.pn++pins,s.heap.get? p.1=some p.2∧H p.1=none∧p.1≠X.env.locals∧p.1 ∉ X.fs∧∀v,p.2.data≠ .cell v
 hok:xG X.prog X.w H s.heap
 len:σ.length=X.N.length
section
variable {X:Cx} {pins:List (Addr×Obj)} {σ:List (Option V)} {H H':Hp} {s:Shared} {h':Heap}
theorem Cx.Ok.nofr (ok:X.Ok) {b:Addr} {o:Obj} (e:X.base.get? b=some o):b ∉ X.fs:=fun hb=>by
 have:=(ok.funs.mem hb).1
 rw [e] at this;cases this
theorem Inv.bs (I:Inv X pins σ H s): ∀b o,X.base.get? b=some o→s.heap.get? b=some o∧H b=none:=fun b o e=>
 ⟨I.base.keep b o (I.ok.bs b o e).1 (I.ok.bs b o e).2 (I.ok.nofr e) (I.ok.noex b o e),I.base.free b o (I.ok.bs b o e).1 (I.ok.bs b o e).2 (I.ok.noex b o e)⟩
theorem Inv.bk (I:Inv X pins σ H s): ∀b o,X.base.get? b=some o→s.heap.get? b=some o:=fun b o e=>(I.bs b o e).1
theorem Inv.mod (I:Inv X pins σ H s):Mod X.K X.mg X.base:=I.ok.mod
theorem Inv.l_ (I:Inv X pins σ H s):X.K.In s.heap:=I.ok.mod.kin.keeps I.bk
theorem Inv.lt (I:Inv X pins σ H s):X.env.locals<s.heap.objs.size:=let ⟨_,hn,_⟩:=I.loc;hn.lt
theorem Inv.sz (I:Inv X pins σ H s):X.s₀.heap.objs.size≤s.heap.objs.size:=Nat.le_trans I.ok.above (Nat.le_of_lt I.lt)
theorem Inv.nofs (I:Inv X pins σ H s) {a:Addr} (h:s.heap.objs.size≤a):a ∉ X.fs:=fun hb=>by
 obtain ⟨_,o,ho,_⟩:=I.ok.funs.mem hb
 exact absurd (Nat.lt_of_lt_of_le (Heap.lt_size ho) (Nat.le_trans I.sz h)) (Nat.lt_irrefl _)
theorem Inv.cne (I:Inv X pins σ H s): ∀x c,X.env.cells.lookup x=some c→c≠X.env.locals:=fun x c e z=>by
 obtain ⟨v,o,ho,hd⟩:=I.cell x c e
 obtain ⟨m,⟨o',es,ep,ho',hd',_⟩,_⟩:=I.loc
 rw [z,ho'] at ho;cases ho;rw [hd'] at hd;cases hd
theorem Inv.funs (I:Inv X pins σ H s):s.heap.FunFrames X.base X.outer:=by
 have all: ∀(l:List Env),(∀b∈frs l,b∈X.fs)→X.s₀.heap.FunFrames X.base l→s.heap.FunFrames X.base l:=by
  intro l
  induction l with
  |nil=>intro _ _;trivial
  |cons env r ih=>
   intro hs hl
   obtain ⟨hk,⟨L,o,hf,hn,ho,hd⟩,hr⟩:=hl
   have hL:L∈X.fs:=hs L (by unfold frs;rw [List.filterMap_cons,hf];exact List.mem_cons_self)
   obtain ⟨sl,e⟩:=I.base.slot L o ho (I.ok.frf L hL) hL fun z=>I.ok.exfs L z hL
   exact ⟨hk,⟨L,_,hf,hn,e,hd⟩,ih (fun b hb=>hs b (by unfold frs;rw [List.filterMap_cons,hf];exact List.mem_cons_of_mem _ hb)) hr⟩
 exact all X.outer (fun _ hb=>hb) I.ok.funs
theorem Inv.stack (I:Inv X pins σ H s):s.heap.FunFrames X.base X.stack:=by
 rcases I.ok.stk with e|⟨e,hf⟩
 ·rw [e];exact I.funs
 ·
  rw [e]
  obtain ⟨m,hn,_⟩:=I.loc
  refine .cons (by rw [I.ok.kind];decide) hf hn ?_ I.funs
  exact Heap.get?_none_of_le (Nat.le_trans I.ok.bsz I.ok.above)
theorem Inv.xW (I:Inv X pins σ H s): ∀b∈frs X.stack,b∈X.env.locals::X.fs:=fun b hb=>by
 rcases I.ok.stk with e|⟨e,hf⟩
 ·rw [e] at hb;exact List.mem_cons_of_mem _ hb
 ·
  rw [e] at hb
  unfold frs at hb
  rw [List.filterMap_cons,hf] at hb
  exact hb
theorem Inv.sN (I:Inv X pins σ H s): ∀b∈frs X.stack,H b=none:=fun b hb=>by
 rcases List.mem_cons.mp (I.xW b hb) with e|hb
 ·rw [e];exact I.free
 ·
  obtain ⟨_,o,ho,_⟩:=I.ok.funs.mem hb
  exact I.base.free b o ho (I.ok.frf b hb) fun z=>I.ok.exfs b z hb
theorem Inv.step {g':Array GenState} {t':Nat} {d':Drawn} {ch:List Addr} (I:Inv X pins σ H s)
  (hch: ∀b∈ch,(b∈X.ex∨X.s₀.heap.objs.size≤b)∧b≠X.env.locals∧(∀x c,X.env.cells.lookup x=some c→c≠b)∧∀p∈X.pn++pins,p.1≠b)
  (keep: ∀b o,b≠X.env.locals→b ∉ X.fs→b ∉ ch→s.heap.get? b=some o→H b=none→h'.get? b=some o)
  (slot: ∀b o,b≠X.env.locals→b∈X.fs→b ∉ ch→s.heap.get? b=some o→H b=none→∃sl,h'.get? b=some {o with slots:=sl}) (free: ∀b o,b ∉ ch→s.heap.get? b=some o→H b=none→H' b=none)
  (there: ∀b o,b ∉ ch→s.heap.get? b=some o→∃o',h'.get? b=some o')
  (tups: ∀b xs,H b=some (.tup xs)→H' b=some (.tup xs)) (frzs: ∀b o u,H b=some (.frz o u)→H' b=some (.frz o u)) (tbls: ∀b ps,H b=some (.tbl ps)→∃more,H' b=some (.tbl (ps++more)))
  (ns: ∀m,s.heap.Ns X.env.locals m→h'.Ns X.env.locals m) (hok:xG X.prog X.w H' h') (hg:AllBare g'):
  Inv X pins σ H' {s with heap:=h',gens:=g',drawn:=d',toks:=t'}:=by
 have neL: ∀b o,X.s₀.heap.get? b=some o→b≠X.env.locals:=fun b o e=>Nat.ne_of_lt (Nat.lt_of_lt_of_le (Heap.lt_size e) I.ok.above)
 have neC: ∀b o,X.s₀.heap.get? b=some o→b ∉ X.ex→b ∉ ch:=fun b o e hx hb=>by
  rcases (hch b hb).1 with z|z
  ·exact hx z
  ·exact absurd (Nat.lt_of_lt_of_le (Heap.lt_size e) z) (Nat.lt_irrefl _)
 have cellK: ∀x c,X.env.cells.lookup x=some c→∀v,s.heap.IsCell c v→h'.IsCell c v:=fun x c e v ⟨o,ho,hd⟩=>by
  have nch:c ∉ ch:=fun z=>(hch c z).2.2.1 x c e rfl
  by_cases hc:c∈X.fs
  ·
   obtain ⟨sl,q⟩:=slot c o (I.cne x c e) hc nch ho (I.kY x c e)
   exact ⟨_,q,hd⟩
  ·exact ⟨o,keep c o (I.cne x c e) hc nch ho (I.kY x c e),hd⟩
 refine ⟨I.ok,I.os,hg,⟨fun b o e n hb hx=>?_,fun b o e n hb hx=>?_,fun b o e n hx=>?_,fun b o e hx=>?_,fun b xs e=>tups b xs (I.base.tups b xs e),fun b o xs e=>frzs b o xs (I.base.frzs b o xs e),fun b ps e=>?_⟩,?_,fun x c e=>?_,?_,fun x c e=>?_,fun p hp=>?_,hok,I.len⟩
 ·exact keep b o (neL b o e) hb (neC b o e hx) (I.base.keep b o e n hb hx) (I.base.free b o e n hx)
 ·
  obtain ⟨sl,e1⟩:=I.base.slot b o e n hb hx
  obtain ⟨sl',e2⟩:=slot b _ (neL b o e) hb (neC b o e hx) e1 (I.base.free b o e n hx)
  exact ⟨sl',e2⟩
 ·
  obtain ⟨o',e1⟩:=I.base.there b o e hx
  exact free b o' (neC b o e hx) e1 (I.base.free b o e n hx)
 ·
  obtain ⟨o',e1⟩:=I.base.there b o e hx
  exact there b o' (neC b o e hx) e1
 ·
  obtain ⟨m1,e1⟩:=I.base.tbls b ps e
  obtain ⟨m2,e2⟩:=tbls b _ e1
  exact ⟨m1++m2,by rw [e2,Array.append_assoc]⟩
 ·
  obtain ⟨m,hn,hl⟩:=I.loc
  refine ⟨m,ns m hn,fun i x v e1 e2 e3=>?_⟩
  obtain ⟨u,r,l⟩:=hl i x v e1 e2 e3
  refine ⟨u,r,?_⟩
  rcases l with l|⟨k,c,e,z⟩
  ·exact .inl l
  ·exact .inr ⟨k,c,e,cellK x c e _ z⟩
 ·
  obtain ⟨v,z⟩:=I.cell x c e
  exact ⟨v,cellK x c e v z⟩
 ·
  obtain ⟨m,⟨o,_,_,ho,_⟩,_⟩:=I.loc
  exact free _ o (fun z=>(hch _ z).2.1 rfl) ho I.free
 ·
  obtain ⟨v,o,ho,hd⟩:=I.cell x c e
  exact free c o (fun z=>(hch c z).2.2.1 x c e rfl) ho (I.kY x c e)
 ·
  obtain ⟨e,n,ne,nf,d⟩:=I.pin p hp
  have nch:p.1 ∉ ch:=fun z=>(hch p.1 z).2.2.2 p hp rfl
  exact ⟨keep p.1 p.2 ne nf nch e n,free p.1 p.2 nch e n,ne,nf,d⟩
theorem Inv.un {t':Nat} (I:Inv X pins σ H s) (u:Un X.fs [] H H' s.heap h') (hok:xG X.prog X.w H' h'):Inv X pins σ H' {s with heap:=h',toks:=t'}:=by
 obtain ⟨m,⟨o,es,ep,ho,r⟩,_⟩:=id I.loc
 obtain ⟨sl,hL⟩:=u.any ho I.free (by simp)
 exact I.step (g':=s.gens) (d':=s.drawn) (ch:=[]) (fun _ z=>nomatch z) (fun b o _ hb _ e n=>u.keep b o e n hb (by simp)) (fun b o _ hb _ e n=>u.slot b o e n hb (by simp)) (fun b o _ e n=>u.free b o e n (by simp)) (fun b o _ e=>u.there b o e (by simp)) u.tups u.frzs u.tbls (fun m' hm=>by
  obtain ⟨o',es',ep',ho',r'⟩:=hm
  rw [ho] at ho';cases ho'
  exact ⟨_,es',ep',hL,r'⟩) hok I.bare
theorem Inv.call {g':Array GenState} {t':Nat} {d':Drawn} {ch:List Addr} (I:Inv X pins σ H s) (u:Un (frs X.stack) ch H H' s.heap h') (hok:xG X.prog X.w H' h') (hg:AllBare g')
  (hch: ∀b∈ch,(b∈X.ex∨X.s₀.heap.objs.size≤b)∧b≠X.env.locals∧(∀x c,X.env.cells.lookup x=some c→c≠b)∧∀p∈X.pn++pins,p.1≠b):
  Inv X pins σ H' {s with heap:=h',gens:=g',drawn:=d',toks:=t'}:=by
 obtain ⟨m,⟨o,es,ep,ho,r⟩,_⟩:=id I.loc
 obtain ⟨sl,hL⟩:=u.any ho I.free fun z=>(hch _ z).2.1 rfl
 exact I.step (ch:=ch) hch (fun b o hL hb hc e n=>u.keep b o e n (fun z=>(List.mem_cons.mp (I.xW b z)).elim hL hb) hc) (fun b o _ _ hc e n=>u.any e n hc) (fun b o hc e n=>u.free b o e n hc) (fun b o hc e=>u.there b o e hc) u.tups u.frzs u.tbls (fun m' hm=>by
  obtain ⟨o',es',ep',ho',r'⟩:=hm
  rw [ho] at ho';cases ho'
  exact ⟨_,es',ep',hL,r'⟩) hok hg
theorem Inv.turned {t':Nat} {it:Addr} (I:Inv X pins σ H s) (k: ∀b o,b≠it→s.heap.get? b=some o→h'.get? b=some o) (hn:H it=none) (hL:it≠X.env.locals)
  (h1:it∈X.ex∨X.s₀.heap.objs.size≤it) (h2: ∀x c,X.env.cells.lookup x=some c→c≠it) (h3: ∀p∈X.pn++pins,p.1≠it):Inv X pins σ H {s with heap:=h',toks:=t'}:=by
 have nit: ∀b u,H b=some u→b≠it:=fun b u e z=>by rw [z,hn] at e;cases e
 refine I.step (g':=s.gens) (d':=s.drawn) (ch:=[it]) (fun b hb=>?_) (fun b o _ _ hc e _=>k b o (fun z=>hc (by simp [z])) e) (fun b o _ _ hc e _=>⟨o.slots,k b o (fun z=>hc (by simp [z])) e⟩) (fun _ _ _ _ n=>n)
  (fun b o hc e=>⟨o,k b o (fun z=>hc (by simp [z])) e⟩) (fun _ _ e=>e) (fun _ _ _ e=>e) (fun b ps e=>⟨#[],by rw [e];simp⟩) (fun m hm=>?_) (fun b u e=>?_) I.bare
 ·
  have e:b=it:=by simpa using hb
  subst e
  exact ⟨h1,hL,h2,h3⟩
 ·
  obtain ⟨o,es,ep,ho,r⟩:=hm
  exact ⟨o,es,ep,k _ o (Ne.symm hL) ho,r⟩
 ·
  refine (I.hok b u e).stay (fun c v hc q=>k c v ?_ q) (fun _ q=>q) fun _ _ q=>q
  rcases hc with z|z
  ·rw [z];exact nit b u e
  ·exact nit c _ z
theorem Inv.tok (I:Inv X pins σ H s) (t:Nat):Inv X pins σ H {s with toks:=t}:=I.un (h':=s.heap) (t':=t) Un.refl I.hok
theorem Inv.kept {t':Nat} (I:Inv X pins σ H s) (k: ∀b u,s.heap.get? b=some u→h'.get? b=some u):Inv X pins σ H {s with heap:=h',toks:=t'}:=I.un (Un.kept k) (I.hok.kept k)
theorem Inv.laid {a:Addr} {o:HO} {t':Nat} (I:Inv X pins σ H s) (k: ∀b u,s.heap.get? b=some u→h'.get? b=some u) (hp:s.heap.objs.size≤a) (new:bW X.prog X.w (upd H a o) h' a o):
  Inv X pins σ (upd H a o) {s with heap:=h',toks:=t'}:=I.un (Un.laid k hp (I.hok.fresh hp)) (I.hok.laid k hp new)
theorem Inv.write {x e:Addr} {o:HO} {t':Nat} (I:Inv X pins σ H s) (mu:Mut (H x)) (he:e=x∨H e=some (.own x)) (k: ∀b u,b≠e→s.heap.get? b=some u→h'.get? b=some u) (heo: ∃u,h'.get? e=some u)
  (new:bW X.prog X.w (upd H x o) h' x o):Inv X pins σ (upd H x o) {s with heap:=h',toks:=t'}:=I.un (Un.write mu he k heo) (I.hok.write mu he k heo new)
theorem Inv.xK {pins':List (Addr×Obj)} (I:Inv X pins σ H s) (h: ∀p∈pins',s.heap.get? p.1=some p.2∧H p.1=none∧p.1≠X.env.locals∧p.1 ∉ X.fs∧∀v,p.2.data≠ .cell v):Inv X pins' σ H s:=
 ⟨I.ok,I.os,I.bare,I.base,I.loc,I.cell,I.free,I.kY,fun p hp=>(List.mem_append.mp hp).elim (fun z=>I.pin p (List.mem_append_left _ z)) (h p),I.hok,I.len⟩
theorem ym {N:List Str} (hN:N.Nodup) {i j:Nat} {x:Str} (a:N[i]?=some x) (b:N[j]?=some x):i=j:=by
 obtain ⟨h1,e1⟩:=List.getElem?_eq_some_iff.mp a
 obtain ⟨h2,e2⟩:=List.getElem?_eq_some_iff.mp b
 exact (List.getElem_inj hN).mp (e1.trans e2.symm)
theorem Ak {M:Model} {A:Around} {E:Value→Shared→Prop} {i:Nat} {x:Str} {v:V} {u:Value} {Q:Unit→Shared→Prop} (I:Inv X pins σ H s) (hN:X.N.Nodup) (hi:X.N[i]?=some x) (hx:Loc X.env.scope x) (r:RelV v u)
  (h: ∀s',Inv X pins (σ.set i (some v)) H s'→(∃a,Heap.SameBut a s.heap s'.heap∧(a=X.env.locals∨X.env.cells.lookup x=some a))→Q () s') (hf:X.fn x=true∨X.env.scope.names.lookup x=some .local:=by first|exact .inl rfl|exact .inr rfl|assumption):wpAny M A (storeName X.env x u) Q E s:=by
 obtain ⟨m,hn,hl⟩:=id I.loc
 have hcls:(X.env.scope.kind == .class||(X.env.scope.kind == .module&&X.env.locals != X.env.globals))=false:=by rw [I.ok.kind];rfl
 have hiσ:i<σ.length:=by rw [I.len];exact (List.getElem?_eq_some_iff.mp hi).1
 have cne:=I.cne
 have tracked: ∀{a:Addr} {h':Heap},(∃o,s.heap.get? a=some o∧H a=none)→Heap.SameBut a s.heap h'→xG X.prog X.w H h':=fun {a h'} ha hs b ob e=>by
  obtain ⟨_,_,hfree⟩:=ha
  refine (I.hok b ob e).stay (fun c w' hc q=>(hs.2 c ?_).trans q) (fun _ q=>q) fun _ _ q=>q
  rintro rfl
  rcases hc with rfl|hc
  ·rw [hfree] at e;cases e
  ·rw [hfree] at hc;cases hc
 rcases hx with hk|hk
 ·
  refine wpAny_storeName_local hk hn (fun h' hn' hs=>?_) hcls
  obtain ⟨oL,_,_,hoL,_⟩:=id hn
  refine h _ ⟨I.ok,I.os,I.bare,⟨fun b o e n hb hx=>?_,fun b o e n hb hx=>?_,I.base.free,fun b o e hx=>?_,I.base.tups,I.base.frzs,I.base.tbls⟩,⟨_,hn',fun j y v' e1 e2 e3=>?_⟩,fun y c e=>?_,I.free,I.kY,fun p hp=>?_,tracked ⟨oL,hoL,I.free⟩ hs,by simpa using I.len⟩ ⟨_,hs,.inl rfl⟩
  ·exact (hs.2 b (Nat.ne_of_lt (Nat.lt_of_lt_of_le (Heap.lt_size e) I.ok.above))).trans (I.base.keep b o e n hb hx)
  ·
   obtain ⟨sl,e1⟩:=I.base.slot b o e n hb hx
   exact ⟨sl,(hs.2 b (Nat.ne_of_lt (Nat.lt_of_lt_of_le (Heap.lt_size e) I.ok.above))).trans e1⟩
  ·
   obtain ⟨o',e1⟩:=I.base.there b o e hx
   exact ⟨o',(hs.2 b (Nat.ne_of_lt (Nat.lt_of_lt_of_le (Heap.lt_size e) I.ok.above))).trans e1⟩
  ·
   by_cases hj:j=i
   ·
    subst hj
    rw [hi] at e1;cases e1
    rw [List.getElem?_set_self hiσ] at e2
    cases e2
    exact ⟨u,r,.inl ⟨hk,by simp⟩⟩
   ·
    rw [List.getElem?_set_ne (Ne.symm hj)] at e2
    obtain ⟨u',r',q⟩:=hl j y v' e1 e2 e3
    refine ⟨u',r',?_⟩
    rcases q with ⟨k,e⟩|⟨k,c,e,z⟩
    ·
     refine .inl ⟨k,?_⟩
     have:y≠x:=fun e=>hj (ym hN e1 (e▸hi))
     simp [this,e]
    ·exact .inr ⟨k,c,e,z.sameBut hs (cne y c e)⟩
  ·
   obtain ⟨w',z⟩:=I.cell y c e
   exact ⟨w',z.sameBut hs (cne y c e)⟩
  ·
   obtain ⟨e,n,ne,nf,d⟩:=I.pin p hp
   exact ⟨(hs.2 p.1 ne).trans e,n,ne,nf,d⟩
 ·have hfn:X.fn x=true:=by
   rcases hf with z|z
   ·exact z
   ·rw [z] at hk;cases hk
  obtain ⟨c,hc⟩:=I.ok.has x (.inl hk)
  obtain ⟨w',z⟩:=I.cell x c hc
  refine wpAny_storeName_cell I.ok.kind hk hc z (fun h' hc' hs=>?_)
  obtain ⟨oc,hoc,hocd⟩:=id z
  refine h {s with heap:=h'} ⟨I.ok,I.os,I.bare,⟨fun b o e n hb hx=>?_,fun b o e n hb hx=>?_,I.base.free,fun b o e hx=>?_,I.base.tups,I.base.frzs,I.base.tbls⟩,⟨m,hn.sameBut hs (Ne.symm (cne x c hc)),fun j y v' e1 e2 e3=>?_⟩,fun y c' e=>?_,I.free,I.kY,fun p hp=>?_,tracked ⟨oc,hoc,I.kY x c hc⟩ hs,by simpa using I.len⟩ ⟨c,hs,.inr hc⟩
  ·exact (hs.2 b (Nat.ne_of_lt (Nat.lt_of_lt_of_le (Heap.lt_size e) (I.ok.cab x c hfn hc)))).trans (I.base.keep b o e n hb hx)
  ·
   obtain ⟨sl,e1⟩:=I.base.slot b o e n hb hx
   exact ⟨sl,(hs.2 b (Nat.ne_of_lt (Nat.lt_of_lt_of_le (Heap.lt_size e) (I.ok.cab x c hfn hc)))).trans e1⟩
  ·
   obtain ⟨o',e1⟩:=I.base.there b o e hx
   exact ⟨o',(hs.2 b (Nat.ne_of_lt (Nat.lt_of_lt_of_le (Heap.lt_size e) (I.ok.cab x c hfn hc)))).trans e1⟩
  ·
   by_cases hj:j=i
   ·
    subst hj
    rw [hi] at e1;cases e1
    rw [List.getElem?_set_self hiσ] at e2
    cases e2
    exact ⟨u,r,.inr ⟨.inl hk,c,hc,hc'⟩⟩
   ·
    rw [List.getElem?_set_ne (Ne.symm hj)] at e2
    obtain ⟨u',r',q⟩:=hl j y v' e1 e2 e3
    refine ⟨u',r',?_⟩
    rcases q with q|⟨k,c',e,z'⟩
    ·exact .inl q
    ·
     refine .inr ⟨k,c',e,z'.sameBut hs ?_⟩
     rintro rfl
     exact hj (ym hN e1 (I.ok.inj _ _ _ e hc▸hi))
  ·
   by_cases hcc:c'=c
   ·subst hcc;exact ⟨_,hc'⟩
   ·
    obtain ⟨w2,z2⟩:=I.cell y c' e
    exact ⟨w2,z2.sameBut hs hcc⟩
  ·
   obtain ⟨e,n,ne,nf,d⟩:=I.pin p hp
   refine ⟨(hs.2 p.1 ?_).trans e,n,ne,nf,d⟩
   intro q
   rw [q,hoc] at e
   have q':oc=p.2:=Option.some.inj e
   exact d w' (by rw [←q'];exact hocd)
theorem sM {M:Model} {A:Around} {E:Value→Shared→Prop} {i:Nat} {x:Str} {v:V} {u:Value} {Q:Unit→Shared→Prop} (I:Inv X pins σ H s) (hN:X.N.Nodup) (hi:X.N[i]?=some x) (hx:Loc X.env.scope x) (r:RelV v u)
  (h: ∀s',Inv X pins (σ.set i (some v)) H s'→Q () s') (hf:X.fn x=true∨X.env.scope.names.lookup x=some .local:=by first|exact .inl rfl|exact .inr rfl|assumption):wpAny M A (storeName X.env x u) Q E s:=
 Ak I hN hi hx r (fun s' I' _=>h s' I') hf
theorem Inv.call' {s':Shared} {ch:List Addr} (I:Inv X pins σ H s) (ho:s'.os=s.os) (u:Un (frs X.stack) ch H H' s.heap s'.heap) (hok:xG X.prog X.w H' s'.heap) (hg:AllBare s'.gens)
  (hch: ∀b∈ch,(b∈X.ex∨X.s₀.heap.objs.size≤b)∧b≠X.env.locals∧(∀x c,X.env.cells.lookup x=some c→c≠b)∧∀p∈X.pn++pins,p.1≠b):Inv X pins σ H' s':=by
 obtain ⟨h',g',d',t',o'⟩:=s'
 have e:o'=s.os:=ho
 subst e
 exact I.call (g':=g') (t':=t') (d':=d') u hok hg hch
end
noncomputable abbrev XK:=Value→Option Addr→Hp→Prop
noncomputable abbrev St:=List (Option V)
noncomputable abbrev VK:=V→Hp→Prop
noncomputable abbrev TE:=St→Hp→VK→Prop
noncomputable abbrev TT:=St→Hp→(Bool→Hp→Prop)→Prop
noncomputable abbrev TA:=St→Hp→(List V→Hp→Prop)→Prop
structure Ends where
 nx:St→Hp→Prop
 rt:VK
 bk:St→Hp→Prop:=fun _ _=>False
 ct:St→Hp→Prop:=fun _ _=>False
noncomputable abbrev TS:=Ends→St→Hp→Prop
def EP (X:Cx) (pins:List (Addr×Obj)) (σ:St) (Q:VK) (u:Value) (s':Shared):Prop:= ∃v H',Inv X pins σ H' s'∧RelV v u∧Q v H'
def TP (X:Cx) (pins:List (Addr×Obj)) (σ:St) (Q:Bool→Hp→Prop) (b:Bool) (s':Shared):Prop:= ∃H',Inv X pins σ H' s'∧Q b H'
def AP (X:Cx) (pins:List (Addr×Obj)) (σ:St) (Q:List V→Hp→Prop) (us:List Value) (s':Shared):Prop:= ∃vs H',Inv X pins σ H' s'∧Vals vs us∧Q vs H'
def SP (X:Cx) (pins:List (Addr×Obj)) (D:Ends) (f:Flow) (s':Shared):Prop:=
 match f with
 | .next=> ∃σ' H',Inv X pins σ' H' s'∧D.nx σ' H'
 | .brk=> ∃σ' H',Inv X pins σ' H' s'∧D.bk σ' H'
 | .cont=> ∃σ' H',Inv X pins σ' H' s'∧D.ct σ' H'
 | .ret u=> ∃v σ' H',Inv X pins σ' H' s'∧RelV v u∧D.rt v H'
def PE (X:Cx) (e:Expr) (t:TE):Prop:=
 ∀(pins:List (Addr×Obj)) (s:Shared) (σ:St) (H:Hp) (Q:VK),Inv X pins σ H s→t σ H Q→wpAny (model X.prog X.w) X.A (eval e X.env) (EP X pins σ Q) X.xe s
def PT (X:Cx) (e:Expr) (t:TT):Prop:=
 ∀(pins:List (Addr×Obj)) (s:Shared) (σ:St) (H:Hp) (Q:Bool→Hp→Prop),Inv X pins σ H s→t σ H Q→wpAny (model X.prog X.w) X.A (isTrue e X.env (eval e X.env)) (TP X pins σ Q) X.xe s
def PW (X:Cx) (e:Expr) (t:TT):Prop:=
 ∀(whole:Sem Value) (pins:List (Addr×Obj)) (s:Shared) (σ:St) (H:Hp) (Q:Bool→Hp→Prop),Inv X pins σ H s→t σ H Q→wpAny (model X.prog X.w) X.A (isTrue e X.env whole) (TP X pins σ Q) X.xe s
theorem PW.pt {X:Cx} {e:Expr} {t:TT} (h:PW X e t):PT X e t:=h _
def PA (X:Cx) (es:List Expr) (t:TA):Prop:=
 ∀(pos:Pos) (pins:List (Addr×Obj)) (s:Shared) (σ:St) (H:Hp) (Q:List V→Hp→Prop),Inv X pins σ H s→t σ H Q→wpAny (model X.prog X.w) X.A (spliced (backTo pos (starEach es X.env))) (AP X pins σ Q) X.xe s
def PS (X:Cx) (st:Stmt) (t:TS):Prop:=
 ∀(pins:List (Addr×Obj)) (s:Shared) (σ:St) (H:Hp) (D:Ends),Inv X pins σ H s→t D σ H→wpAny (model X.prog X.w) X.A (exec st X.env) (SP X pins D) X.xe s
def y_ (X:Cx) (st:List Stmt) (t:TS):Prop:=
 ∀(pins:List (Addr×Obj)) (s:Shared) (σ:St) (H:Hp) (D:Ends),Inv X pins σ H s→t D σ H→wpAny (model X.prog X.w) X.A (execs st X.env) (SP X pins D) X.xe s
theorem thn {α:Type} {t:Sem α} {Q Q':α→Shared→Prop} {M:Model} {A:Around} {E:Value→Shared→Prop} {s:Shared} (h:wpAny M A t Q E s) (hQ: ∀a s,Q a s→Q' a s):wpAny M A t Q' E s:=wpAny_mono h hQ fun _ _ x=>x
section
variable {X:Cx}
def J0 (i:Nat):TE:=fun σ H Q=> ∃v,σ[i]?=some (some v)∧Q v H
def tC (v:V):TE:=fun _ H Q=>Q v H
theorem Qb {i:Nat} {x:Str} {pos:Pos} (hN:X.N[i]?=some x) (hv:Vis X.env.scope x) (hd:(x == ("__debug__" : Str))=false:=by decide) (hcd:(x == ("__classdict__" : Str))=false:=by decide):PE X (.Name x pos) (J0 i):=by
 intro pins s σ H Q I h
 obtain ⟨v,e,h⟩:=h
 obtain ⟨m,hn,hl⟩:=I.loc
 obtain ⟨u,r,l⟩:=hl i x v hN e hv
 have fin:EP X pins σ Q u s:=⟨v,H,I,r,h⟩
 rcases l with ⟨hk,hm⟩|⟨hk,c,hc,hcell⟩
 ·exact wpAny_Name (wpAny_loadName_local I.ok.kind hk hn hm fin) hd
 ·
  rcases hk with hk|hk
  ·exact wpAny_Name (wpAny_loadName_cell I.ok.kind hk hc hcell fin) hd
  ·exact wpAny_Name (wpAny_loadName_free I.ok.kind hk hc hcell fin hcd) hd
theorem ae {i j pos}:PE X (.Constant (.int i) j pos) (tC (.int i)):=fun _ _ _ H _ I h=>wpAny_Constant_int ⟨.int i,H,I.tok _,⟨_,rfl⟩,h⟩
theorem sX {b j pos}:PE X (.Constant (.bool b) j pos) (tC (.bl b)):=fun _ _ _ H _ I h=>Constant_bool ⟨.bl b,H,I,rfl,h⟩
theorem eL {j pos}:PE X (.Constant .none j pos) (tC .non):=fun _ _ _ H _ I h=>Constant_none ⟨.non,H,I,rfl,h⟩
theorem bc {x j pos}:PE X (.Constant (.str x) j pos) (tC (.str x)):=fun _ _ _ H _ I h=>Calls.Constant_str ⟨.str x,H,I.tok _,⟨_,rfl⟩,h⟩
def Gl (X:Cx) (x:Str):Prop:=X.env.kindOf x=some .globalImplicit
theorem lq {E:Value→Shared→Prop} {pins:List (Addr×Obj)} {s:Shared} {σ:St} {H:Hp} {x:Str} {u:Value} {pos:Pos} {Q:Value→Shared→Prop} (I:Inv X pins σ H s) (hg:Gl X x) (hm:X.mg x=some u) (h:Q u s)
  (hd:(x == ("__debug__" : Str))=false:=by decide):wpAny (model X.prog X.w) X.A (eval (.Name x pos) X.env) Q E s:=
 Calls.Name_function_global I.ok.kind hg (Calls.loadGlobal_global (by rw [I.ok.glob];exact I.mod.glob.keeps I.bk) hm h) hd
theorem uX {E:Value→Shared→Prop} {pins:List (Addr×Obj)} {s:Shared} {σ:St} {H:Hp} {x:Str} {u:Value} {pos:Pos} {Q:Value→Shared→Prop} (I:Inv X pins σ H s) (hg:Gl X x) (hm:X.mg x=none) (hv:bootBuiltins x=some u) (h:Q u s)
  (hn:x≠ "__name__" :=by decide) (hd:(x == ("__debug__" : Str))=false:=by decide):wpAny (model X.prog X.w) X.A (eval (.Name x pos) X.env) Q E s:=by
 obtain ⟨mb,h1,h2⟩:=I.mod.blt
 exact Calls.Name_function_global I.ok.kind hg (Calls.loadGlobal_builtin (by rw [I.ok.glob];exact I.mod.glob.keeps I.bk) hm (by rw [I.ok.blt];exact h1.keeps I.bk) ((h2 x hn).trans hv) h) hd
theorem EN {x:Str} {v:V} {u:Value} {pos:Pos} (hg:Gl X x) (hm:X.mg x=some u) (r:RelV v u) (hd:(x == ("__debug__" : Str))=false:=by decide):PE X (.Name x pos) (tC v):=
 fun _ _ _ H _ I h=>lq I hg hm ⟨v,H,I,r,h⟩ hd
theorem KQ {x:Str} {v:V} {u:Value} {pos:Pos} (hg:Gl X x) (hm:X.mg x=none) (hv:bootBuiltins x=some u) (r:RelV v u) (hn:x≠ "__name__" :=by decide) (hd:(x == ("__debug__" : Str))=false:=by decide):PE X (.Name x pos) (tC v):=
 fun _ _ _ H _ I h=>uX I hg hm hv ⟨v,H,I,r,h⟩ hn hd
variable {a b:Expr} {ta tb:TE} {pos:Pos}
def tB (t:TE):TT:=fun σ H Q=>t σ H fun x H1=> ∃c,x = .bl c∧Q c H1
theorem P2 {e:Expr} {t:TE} (h:PE X e t) (he: ∀whole,isTrue e X.env whole=(do let v←whole;standAt e.pos;holding [v] (truthy v)):=by intro _;rfl):PT X e (tB t):=by
 intro pins s σ H Q I hw
 refine isTrue_plain (thn (h pins s σ H _ I hw) fun v s1 ⟨x,H1,I1,r1,q1⟩=>?_) (he _)
 obtain ⟨d,rfl,q⟩:=q1
 cases r1
 exact wpAny_truthy_bool ⟨H1,I1,q⟩
variable {tA tB':TT} {rest:List Expr}
def R5 (t u:TT):TT:=fun σ H Q=>t σ H fun c H1=>if c=true then u σ H1 Q else Q false H1
def tOr (t u:TT):TT:=fun σ H Q=>t σ H fun c H1=>if c=true then Q true H1 else u σ H1 Q
def RW (t:TT):TT:=fun σ H Q=>t σ H fun c H1=>Q (!c) H1
theorem pw_and1 (ha:PT X a tA):PW X (.BoolOp .And [a] pos) tA:=by
 intro wh pins s σ H Q I h
 refine isTrue_and (thn (ha pins s σ H Q I h) fun c s1 e=>?_)
 cases c with
 |true=>exact isTrue_and_nil e
 |false=>exact e
theorem pw_or1 (ha:PT X a tA):PW X (.BoolOp .Or [a] pos) tA:=by
 intro wh pins s σ H Q I h
 refine isTrue_or (thn (ha pins s σ H Q I h) fun c s1 e=>?_)
 cases c with
 |false=>exact isTrue_or_nil e
 |true=>exact e
theorem pw_and (ha:PT X a tA) (hb:PW X (.BoolOp .And (b::rest) pos) tB'):PW X (.BoolOp .And (a::b::rest) pos) (R5 tA tB'):=by
 intro wh pins s σ H Q I h
 refine isTrue_and (thn (ha pins s σ H _ I h) fun c s1 ⟨H1,I1,q1⟩=>?_)
 cases c with
 |true=>exact hb wh pins s1 σ H1 Q I1 q1
 |false=>exact ⟨H1,I1,q1⟩
theorem pw_or (ha:PT X a tA) (hb:PW X (.BoolOp .Or (b::rest) pos) tB'):PW X (.BoolOp .Or (a::b::rest) pos) (tOr tA tB'):=by
 intro wh pins s σ H Q I h
 refine isTrue_or (thn (ha pins s σ H _ I h) fun c s1 ⟨H1,I1,q1⟩=>?_)
 cases c with
 |true=>exact ⟨H1,I1,q1⟩
 |false=>exact hb wh pins s1 σ H1 Q I1 q1
theorem uS (ha:PT X a tA):PT X (.UnaryOp .Not a pos) (RW tA):=by
 intro pins s σ H Q I h
 exact isTrue_not (ha pins s σ H (fun c H1=>Q (!c) H1) I h)
def LJ (ta tb:TE):TE:=fun σ H Q=>ta σ H fun x H1=> ∃c,x = .bl c∧if c=true then tb σ H1 Q else Q (.bl false) H1
def abk (ta tb:TE):TE:=fun σ H Q=>ta σ H fun x H1=> ∃c,x = .bl c∧if c=true then Q (.bl true) H1 else tb σ H1 Q
def LG (ta:TE):TE:=fun σ H Q=>ta σ H fun x H1=> ∃c,x = .bl c∧Q (.bl (!c)) H1
theorem b9 {op} {t:TE} (h:PE X a t):PE X (.BoolOp op [a] pos) t:=fun pins s σ H Q I hw=>BoolOp_one (h pins s σ H Q I hw)
theorem bu (ha:PE X a ta) (hb:PE X (.BoolOp .And (b::rest) pos) tb):PE X (.BoolOp .And (a::b::rest) pos) (LJ ta tb):=by
 intro pins s σ H Q I h
 refine BoolOp_and (thn (ha pins s σ H _ I h) fun v s1 ⟨x,H1,I1,r1,q1⟩=>?_)
 obtain ⟨c,rfl,q1⟩:=q1
 cases r1
 refine wpAny_truthy_bool ?_
 cases c with
 |true=>exact hb pins s1 σ H1 Q I1 q1
 |false=>exact ⟨.bl false,H1,I1,rfl,q1⟩
theorem uT (ha:PE X a ta):PE X (.UnaryOp .Not a pos) (LG ta):=by
 intro pins s σ H Q I h
 refine UnaryOp_ (thn (ha pins s σ H _ I h) fun v s1 ⟨x,H1,I1,r1,q1⟩=>?_)
 obtain ⟨c,rfl,q1⟩:=q1
 cases r1
 exact not_of (wpAny_truthy_bool ⟨.bl (!c),H1,I1,rfl,q1⟩)
def tIf (t:TT) (ta tb:TE):TE:=fun σ H Q=>t σ H fun c H1=>if c=true then ta σ H1 Q else tb σ H1 Q
theorem CA {c:Expr} (hc:PT X c tA) (ha:PE X a ta) (hb:PE X b tb):PE X (.IfExp c a b pos) (tIf tA ta tb):=by
 intro pins s σ H Q I h
 refine wpAny_IfExp (thn (hc pins s σ H _ I h) fun d s1 ⟨H1,I1,q1⟩=>?_)
 cases d with
 |true=>exact ha pins s1 σ H1 Q I1 q1
 |false=>exact hb pins s1 σ H1 Q I1 q1
end
def bU (K:PySem.W.Frag) (H:Hp) (a:Addr) (xs:List V):Prop:=
 Rd H a (.lst xs)∨
  ∃(o:Obj) (its:Array Value) (n:Nat),K.lookup a=some o∧o.cls = .type "list" ∧o.dict=none∧o.data = .seq its n∧its.size≤sizeLine∧Vals xs its.toList
def iD (K:PySem.W.Frag) (H:Hp) (a:Addr) (xs:List V):Prop:=
 Rd H a (.tup xs)∨
  ∃(o:Obj) (its:Array Value) (n:Nat),K.lookup a=some o∧o.cls = .type "tuple" ∧o.data = .seq its n∧its.size≤sizeLine∧Vals xs its.toList
noncomputable def afH:Value→Option V
 | .none=>some .non
 | .bool b=>some (.bl b)
 | .int i _=>some (.int i)
 | .str x _=>some (.str x)
 | .bytes b _=>some (.byt b)
 | .float b _=>some (.flt b)
 | .ref a=>some (.ref a)
 | .type n=>some (.ty n)
 |_=>none
theorem RelV.abs {x:V} {u:Value} (r:RelV x u):afH u=some x:=by
 cases x with
 |non=>cases r;rfl
 |bl _=>cases r;rfl
 |int _=>obtain ⟨t,rfl⟩:=r;rfl
 |str _=>obtain ⟨t,rfl⟩:=r;rfl
 |byt _=>obtain ⟨t,rfl⟩:=r;rfl
 |flt _=>obtain ⟨t,rfl⟩:=r;rfl
 |ref _=>cases r;rfl
 |ty _=>cases r;rfl
theorem RelV.inj {x y:V} {u:Value} (r:RelV x u) (q:RelV y u):x=y:=Option.some.inj (r.abs.symm.trans q.abs)
theorem Vals.inj: ∀{xs ys:List V} {us:List Value},Vals xs us→Vals ys us→xs=ys
 |_,_,_,.nil,.nil=>rfl
 |_,_,_,.cons r t,.cons r' t'=>by rw [r.inj r',Vals.inj t t']
section
variable {X:Cx} {pins:List (Addr×Obj)} {σ:St} {H:Hp} {s:Shared} {a:Addr} {xs ys:List V}
theorem bU.of {K:PySem.W.Frag} (h:H a=some (.lst xs)):bU K H a xs:= .inl (.inl h)
theorem iD.of {K:PySem.W.Frag} (h:H a=some (.tup xs)):iD K H a xs:= .inl (.inl h)
theorem Inv.list (I:Inv X pins σ H s) (h:bU X.K H a xs): ∃its:List Value,Vals xs its∧PlainL s.heap a its.toArray∧xs.length≤sizeLine:=by
 rcases h with h|⟨o,its,n,hk,hc,hd,hs,hz,r⟩
 ·
  obtain ⟨z,its,n,r,e⟩:=h.ok I.hok
  exact ⟨its,r,⟨_,n,e,rfl,rfl,rfl⟩,z⟩
 ·
  refine ⟨its.toList,r,⟨o,n,I.l_ a o hk,hc,hd,by simpa using hs⟩,?_⟩
  have e:=r.length
  simp only [Array.length_toList] at e
  omega
theorem Inv.tuple (I:Inv X pins σ H s) (h:iD X.K H a xs): ∃its:List Value,Vals xs its∧IsTup s.heap a its.toArray∧xs.length≤sizeLine:=by
 rcases h with h|⟨o,its,n,hk,hc,hs,hz,r⟩
 ·
  obtain ⟨z,its,r,p⟩:=h.ok I.hok
  exact ⟨its,r,p,z⟩
 ·
  refine ⟨its.toList,r,⟨o,I.l_ a o hk,hc,n,by simpa using hs⟩,?_⟩
  have e:=r.length
  simp only [Array.length_toList] at e
  omega
theorem Inv.CF (I:Inv X pins σ H s) (h:bU X.K H a xs) (h':bU X.K H a ys):xs=ys:=by
 obtain ⟨its,r,⟨o,n,e,_,_,d⟩,_⟩:=I.list h
 obtain ⟨its',r',⟨o',n',e',_,_,d'⟩,_⟩:=I.list h'
 rw [e] at e';cases e'
 rw [d] at d'
 injection d' with d1 _
 have:its=its':=by simpa using congrArg Array.toList d1
 subst this
 exact r.inj r'
theorem Inv.Ai (I:Inv X pins σ H s) (h:iD X.K H a xs) (h':iD X.K H a ys):xs=ys:=by
 obtain ⟨its,r,⟨o,e,_,n,d⟩,_⟩:=I.tuple h
 obtain ⟨its',r',⟨o',e',_,n',d'⟩,_⟩:=I.tuple h'
 rw [e] at e';cases e'
 rw [d] at d'
 injection d' with d1 _
 have:its=its':=by simpa using congrArg Array.toList d1
 subst this
 exact r.inj r'
end
noncomputable abbrev Cx.wish (X:Cx) (E:Value→Shared→Prop):Cx:={X with xe:=E}
noncomputable abbrev Cx.nox (X:Cx):Cx:=X.wish fun _ _=>False
theorem Cx.Ok.wish {X:Cx} (ok:X.Ok) (E:Value→Shared→Prop):(X.wish E).Ok:=
 ⟨ok.mod,ok.kind,ok.glob,ok.blt,ok.above,ok.inj,ok.has,ok.cab,ok.hd,ok.frames,ok.stk,ok.exf,ok.bs,ok.bsz,ok.noex,ok.exfs,ok.funs,ok.frf⟩
theorem Cx.Ok.unwish {X:Cx} {E:Value→Shared→Prop} (ok:(X.wish E).Ok):X.Ok:=
 ⟨ok.mod,ok.kind,ok.glob,ok.blt,ok.above,ok.inj,ok.has,ok.cab,ok.hd,ok.frames,ok.stk,ok.exf,ok.bs,ok.bsz,ok.noex,ok.exfs,ok.funs,ok.frf⟩
section
variable {X:Cx} {pins:List (Addr×Obj)} {σ:St} {H:Hp} {s:Shared} {E:Value→Shared→Prop}
theorem Inv.wish (I:Inv X pins σ H s) (E:Value→Shared→Prop):Inv (X.wish E) pins σ H s:=⟨I.ok.wish E,I.os,I.bare,I.base,I.loc,I.cell,I.free,I.kY,I.pin,I.hok,I.len⟩
theorem Inv.unwish (I:Inv (X.wish E) pins σ H s):Inv X pins σ H s:=⟨I.ok.unwish,I.os,I.bare,I.base,I.loc,I.cell,I.free,I.kY,I.pin,I.hok,I.len⟩
theorem SP.unwish {D:Ends} {f:Flow} {s':Shared} (h:SP (X.wish E) pins D f s'):SP X pins D f s':=by
 cases f with
 |next=>obtain ⟨σ',H',I,q⟩:=h;exact ⟨σ',H',I.unwish,q⟩
 |brk=>obtain ⟨σ',H',I,q⟩:=h;exact ⟨σ',H',I.unwish,q⟩
 |cont=>obtain ⟨σ',H',I,q⟩:=h;exact ⟨σ',H',I.unwish,q⟩
 |ret u=>obtain ⟨v,σ',H',I,r,q⟩:=h;exact ⟨v,σ',H',I.unwish,r,q⟩
theorem PT.nox {e:Expr} {t:TT} (h:PT X.nox e t):PT X e t:=fun pins s σ H Q I hw=>
 wpAny_mono (h pins s σ H Q (I.wish _) hw) (fun _ _ ⟨H',I',q⟩=>⟨H',I'.unwish,q⟩) fun _ _ z=>False.elim z
theorem y_.nox {st:List Stmt} {t:TS} (h:y_ X.nox st t):y_ X st t:=fun pins s σ H D I hw=>
 wpAny_mono (h pins s σ H D (I.wish _) hw) (fun _ _ q=>q.unwish) fun _ _ z=>False.elim z
end
section
variable {X:Cx} {st:Stmt} {rest:List Stmt} {t u:TS} {e:Expr} {te:TE} {pos:Pos}
def GX:TS:=fun D σ H=>D.nx σ H
def Pl (t u:TS):TS:=fun D σ H=>t {D with nx:=u D} σ H
theorem c9:y_ X [] GX:=fun _ _ σ H _ I h=>wpAny_execs_nil ⟨σ,H,I,h⟩
theorem aH (h1:PS X st t) (h2:y_ X rest u):y_ X (st::rest) (Pl t u):=by
 intro pins s σ H D I h
 refine wpAny_execs_cons (thn (h1 pins s σ H {D with nx:=u D} I h) fun f s1 q=>?_)
 cases f with
 |next=>
  obtain ⟨σ',H',I',q⟩:=q
  exact h2 pins s1 σ' H' D I' q
 |ret v=>exact q
 |brk=>exact q
 |cont=>exact q
theorem aM (h1:PS X st t):y_ X [st] t:=by
 intro pins s σ H D I h
 refine wpAny_execs_cons (thn (h1 pins s σ H D I h) fun f s1 q=>?_)
 cases f with
 |next=>exact wpAny_execs_nil q
 |ret v=>exact q
 |brk=>exact q
 |cont=>exact q
def Py:TS:=fun D σ H=>D.bk σ H
def R3:TS:=fun D σ H=>D.ct σ H
theorem Inv.quiet {pins:List (Addr×Obj)} {σ:St} {H:Hp} {s:Shared} (I:Inv X pins σ H s):interactive X.env=false:=by simp [interactive,I.ok.kind]
def Ez (te:TE):TS:=fun D σ H=>te σ H fun _ H1=>D.nx σ H1
theorem KH (he:PE X e te) (hs:swapsWith e none pos.line X.env=pure false:=by rfl):PS X (.Expr e pos) (Ez te):=by
 intro pins s σ H D I h
 exact wpAny_Expr_any (thn (he pins s σ H _ I h) fun v s1 ⟨x,H1,I1,r1,q1⟩=>⟨σ,H1,I1,q1⟩) I.quiet hs
def Pn (te:TE):TS:=fun D σ H=>te σ H D.rt
theorem ba (he:PE X e te):PS X (.Return (some e) pos) (Pn te):=by
 intro pins s σ H D I h
 exact wpAny_Return_some (thn (he pins s σ H _ I h) fun v s1 ⟨x,H1,I1,r1,q1⟩=>⟨x,σ,H1,I1,r1,q1⟩)
def RV:TS:=fun D _ H=>D.rt .non H
def Pr (c:TT) (t u:TS):TS:=fun D σ H=>c σ H fun b H1=>if b=true then t D σ H1 else u D σ H1
theorem nA {c:Expr} {a b:List Stmt} {tc:TT} (hc:PT X c tc) (ha:y_ X a t) (hb:y_ X b u):PS X (.If c a b pos) (Pr tc t u):=by
 intro pins s σ H D I h
 refine wpAny_If (thn (hc pins s σ H _ I h) fun d s1 ⟨H1,I1,q1⟩=>?_)
 cases d with
 |true=>exact ha pins s1 σ H1 D I1 q1
 |false=>exact hb pins s1 σ H1 D I1 q1
end
noncomputable abbrev TG:=V→St→Hp→(St→Hp→Prop)→Prop
noncomputable abbrev y7:=List V→St→Hp→(St→Hp→Prop)→Prop
def PG (X:Cx) (target:Expr) (t:TG):Prop:=
 ∀(pins:List (Addr×Obj)) (s:Shared) (σ:St) (H:Hp) (v:V) (u:Value) (Q:St→Hp→Prop),Inv X pins σ H s→RelV v u→t v σ H Q→
  wpAny (model X.prog X.w) X.A (assign target X.env u) (fun _ s'=> ∃σ' H',Inv X pins σ' H' s'∧Q σ' H') X.xe s
def JS (X:Cx) (ts:List Expr) (t:y7):Prop:=
 ∀(pins:List (Addr×Obj)) (s:Shared) (σ:St) (H:Hp) (vs:List V) (us:List Value) (Q:St→Hp→Prop),Inv X pins σ H s→Vals vs us→t vs σ H Q→
  wpAny (model X.prog X.w) X.A (assignInOrder ((assignEach ts X.env).map (·.2)) us) (fun _ s'=> ∃σ' H',Inv X pins σ' H' s'∧Q σ' H') X.xe s
noncomputable abbrev afJ:=V→V→V→Hp→(Hp→Prop)→Prop
noncomputable abbrev TIp:=V→V→Hp→VK→Prop
section
variable {X:Cx} {pos:Pos}
def o6 (i:Nat):TG:=fun v σ H Q=>Q (σ.set i (some v)) H
theorem bI {i:Nat} {x:Str} (hN:X.N.Nodup) (hi:X.N[i]?=some x) (hx:Loc X.env.scope x) (hf:X.fn x=true∨X.env.scope.names.lookup x=some .local:=by first|exact .inl rfl|exact .inr rfl|assumption):PG X (.Name x pos) (o6 i):=by
 intro pins s σ H v u Q I r h
 exact wpAny_assign_Name (sM I hN hi hx r (fun s' I'=>⟨_,H,I',h⟩) hf)
def aaM:y7:=fun vs σ H Q=>vs= []∧Q σ H
def Jr (t:TG) (u:y7):y7:=fun vs σ H Q=> ∃v r,vs=v::r∧t v σ H fun σ' H'=>u r σ' H' Q
theorem Bk:JS X [] aaM:=by
 intro pins s σ H vs us Q I r h
 obtain ⟨e,h⟩:=h
 subst e
 cases r
 exact assignInOrder_nil ⟨σ,H,I,h⟩
theorem HN {e:Expr} {es:List Expr} {t:TG} {u:y7} (h1:PG X e t) (h2:JS X es u)
  (hs:(assignEach (e::es) X.env).map (·.2)=assign e X.env::(assignEach es X.env).map (·.2):=by rfl):JS X (e::es) (Jr t u):=by
 intro pins s σ H vs us Q I r h
 obtain ⟨v,vr,e1,h⟩:=h
 subst e1
 cases r with
 |cons r rr=>
  rw [hs]
  refine assignInOrder_cons (thn (h1 pins s σ H _ _ _ I r h) fun _ s1 ⟨σ1,H1,I1,q1⟩=>?_)
  exact h2 pins s1 σ1 H1 _ _ Q I1 rr q1
def Lg (K:PySem.W.Frag) (n:Nat) (t:y7):TG:=fun v σ H Q=> ∃a xs,v = .ref a∧iD K H a xs∧xs.length=n∧t xs σ H Q
theorem P_ {es:List Expr} {k:Nat} {t:y7} {n:Nat} (hc:X.calm=true) (h:JS X es t)
  (hn:(assignEach es X.env).length=n:=by rfl) (hst:(assignEach es X.env).findIdx? (·.1)=none:=by rfl):PG X (.Tuple es k pos) (Lg X.K n t):=by
 intro pins s σ H v u Q I r hw
 obtain ⟨a,xs,e1,hq,hl,hw⟩:=hw
 subst e1
 cases r
 obtain ⟨its,rv,ht,hz⟩:=I.tuple hq
 refine assign_Tuple_tuple (I.ok.hd hc) ht (by simp [hn,←hl,rv.length]) hst fun h' hx=>?_
 have I1:Inv X pins σ H {s with heap:=h'}:=I.kept (t':=s.toks) fun b o e=>hx b o (Nat.ne_of_lt (Heap.lt_size e)) e
 exact h pins _ σ H xs _ Q I1 (by simpa using rv) hw
def afy (to ti:TE) (t:afJ):TG:=fun v σ H Q=>to σ H fun o H1=>ti σ H1 fun i H2=>t o i v H2 fun H3=>Q σ H3
def Dk (te:TE) (g:TG):TS:=fun D σ H=>te σ H fun x H1=>g x σ H1 D.nx
theorem P6 {tg e:Expr} {te:TE} {g:TG} (he:PE X e te) (hg:PG X tg g) (hs:swapsWithSole [tg] e pos.line X.env=pure false:=by rfl) (hw:swappedStores [tg] e X.env=pure none:=by rfl)
  (h1:(assignEach [tg] X.env).map (·.2)= [assign tg X.env]:=by rfl):PS X (.Assign [tg] e pos) (Dk te g):=by
 intro pins s σ H D I h
 refine wpAny_Assign_stores (thn (he pins s σ H _ I h) fun v s1 ⟨x,H1,I1,r1,q1⟩=>?_) hs hw
 rw [h1]
 exact thn (hg pins s1 σ H1 x v _ I1 r1 q1) fun _ s2 q=>q
theorem P5 {i:Nat} {x:Str} {e:Expr} {te:TE} {pos':Pos} (hN:X.N.Nodup) (hi:X.N[i]?=some x) (hx:Loc X.env.scope x) (he:PE X e te) (hs:swapsWith e (some (.Name x pos')) pos.line X.env=pure false:=by rfl) (hf:X.fn x=true∨X.env.scope.names.lookup x=some .local:=by first|exact .inl rfl|exact .inr rfl|assumption):
  PS X (.Assign [.Name x pos'] e pos) (Dk te (o6 i)):=by
 intro pins s σ H D I h
 refine wpAny_Assign_Name (thn (he pins s σ H _ I h) fun v s1 ⟨y,H1,I1,r1,q1⟩=>?_) hs
 exact sM I1 hN hi hx r1 (fun s2 I2=>⟨_,H1,I2,q1⟩) hf
def abo (i:Nat) (te:TE) (ti:TIp):TS:=fun D σ H=> ∃x,σ[i]?=some (some x)∧te σ H fun y H1=>ti x y H1 fun z H2=>D.nx (σ.set i (some z)) H2
end
section
variable {X:Cx} {pos:Pos}
end
structure It where
 go:Nat→Hp→Prop
 yld:Nat→Hp→V→Hp→Prop
 stop:Nat→Hp→Prop
def xH (X:Cx) (pins:List (Addr×Obj)) (H:Hp) (b:Addr):Prop:=
 H b=none∧b≠X.env.locals∧b ∉ X.fs∧(b∈X.ex∨X.s₀.heap.objs.size≤b)∧(∀x c,X.env.cells.lookup x=some c→c≠b)∧∀p∈X.pn++pins,p.1≠b
theorem Inv.CL {X:Cx} {pins:List (Addr×Obj)} {σ:St} {H H':Hp} {s:Shared} {b:Addr} (I:Inv X pins σ H s) (hb:s.heap.objs.size≤b) (hn:H' b=none):xH X pins H' b:=by
 refine ⟨hn,Nat.ne_of_gt (Nat.lt_of_lt_of_le I.lt hb),I.nofs hb,.inr (Nat.le_trans I.sz hb),fun x c e z=>?_,fun p hp z=>?_⟩
 ·
  obtain ⟨v,q⟩:=I.cell x c e
  exact absurd (Nat.lt_of_lt_of_le q.lt (by rw [z];exact hb)) (Nat.lt_irrefl _)
 ·exact absurd (Nat.lt_of_lt_of_le (Heap.lt_size (I.pin p hp).1) (by rw [z];exact hb)) (Nat.lt_irrefl _)
structure Turn (P:Program) (w:World) (K:PySem.W.Frag) (tg:Expr) (J:It) (fp:List Addr) (it:Addr) (tn:Nat→Heap→Prop):Prop where
 mem:it∈fp
 obj: ∀i h,tn i h→∀b∈fp,∃o,h.get? b=some o∧∀v,o.data≠ .cell v
 keep: ∀i h h',tn i h→(∀b∈fp,∀o,h.get? b=some o→h'.get? b=some o)→tn i h'
 item: ∀(X:Cx),X.prog=P→X.w=w→X.K=K→X.calm=true→∀(i:Nat) (pins:List (Addr×Obj)) (s:Shared) (σ:St) (H:Hp) (E:Value→Shared→Prop),Inv X pins σ H s→(∀b∈fp,xH X pins H b)→tn i s.heap→J.go i H→
  wpAny (model P w) X.A (pyNext (.ref it)) (fun r s1=> ∃u,r=some u∧
   wpAny (model P w) X.A (letOwnedTupleGo tg (.ref it) u) (fun _ s2=> ∃x H',Inv X pins σ H' s2∧RelV x u∧J.yld i H x H'∧tn (i+1) s2.heap∧∀b∈fp,H' b=none) E s1) E s
 done: ∀(X:Cx),X.prog=P→X.w=w→X.K=K→X.calm=true→∀(i:Nat) (pins:List (Addr×Obj)) (s:Shared) (σ:St) (H:Hp) (E:Value→Shared→Prop),Inv X pins σ H s→(∀b∈fp,xH X pins H b)→tn i s.heap→J.stop i H→
  wpAny (model P w) X.A (pyNext (.ref it)) (fun r s1=>r=none∧Inv X pins σ H s1) E s
 self: ∀(A:Around) (i:Nat) (s:Shared) (Q:Value→Shared→Prop) (E:Value→Shared→Prop),tn i s.heap→Q (.ref it) s→wpAny (model P w) A (pyIter (.ref it)) Q E s
noncomputable abbrev TI:=St→Hp→(It→Hp→Prop)→Prop
def PIE (X:Cx) (pins:List (Addr×Obj)) (σ:St) (tg:Expr) (R:It→Hp→Prop) (itv:Value) (s2:Shared):Prop:=
 ∃(it:Addr) (fp:List Addr) (tn:Nat→Heap→Prop) (J:It) (H':Hp),itv = .ref it∧Inv X pins σ H' s2∧Turn X.prog X.w X.K tg J fp it tn∧tn 0 s2.heap∧(∀b∈fp,xH X pins H' b)∧R J H'
def PI (X:Cx) (tg iter:Expr) (wi:TI):Prop:=
 ∀(pins:List (Addr×Obj)) (s:Shared) (σ:St) (H:Hp) (R:It→Hp→Prop),Inv X pins σ H s→wi σ H R→
  wpAny (model X.prog X.w) X.A (eval iter X.env) (fun v s1=>wpAny (model X.prog X.w) X.A (pyIter v) (PIE X pins σ tg R) X.xe s1) X.xe s
theorem E5 {M:Model} {A:Around} {E:Value→Shared→Prop} {s:Shared} {tg:Expr} {it:Addr} {u:Value} {o:Obj} {n:String} {vs:Array Value} {Q:Unit→Shared→Prop} (ho:s.heap.get? it=some o) (hc:o.cls = .type n) (hd:o.data = .fields vs)
    (hn: ["enumerate","zip","dict_itemiterator","dict_reverseitemiterator","odict_iterator","itertools.zip_longest","itertools.pairwise"].contains n=false) (hQ:Q () s):wpAny M A (letOwnedTupleGo tg (.ref it) u) Q E s:=by
  unfold letOwnedTupleGo
  cases tg<;>first
    |exact wpAny_pure hQ
    |(cases u<;>first
        |exact wpAny_pure hQ
        |(
           refine wpAny_bind (wpAny_load ho ?_)
           rw [hc,hd]
           show wpAny M A (if (["enumerate","zip","dict_itemiterator","dict_reverseitemiterator","odict_iterator","itertools.zip_longest","itertools.pairwise"].contains n&&vs[0]? == some (rawInt _))=true then _ else _) Q E s
           rw [if_neg (by intro h;rw [hn,Bool.false_and] at h;cases h)]
           exact wpAny_pure hQ))
noncomputable def Itl (K:PySem.W.Frag) (a:Addr):It:=
 ⟨fun i H=> ∃xs x,bU K H a xs∧xs[i]?=some x,fun i H x H'=>H'=H∧∀xs,bU K H a xs→xs[i]?=some x,fun i H=> ∃xs,bU K H a xs∧xs.length≤i⟩
noncomputable def Itt (K:PySem.W.Frag) (a:Addr):It:=
 ⟨fun i H=> ∃xs x,iD K H a xs∧xs[i]?=some x,fun i H x H'=>H'=H∧∀xs,iD K H a xs→xs[i]?=some x,fun i H=> ∃xs,iD K H a xs∧xs.length≤i⟩
noncomputable def GR (lo:Int) (n:Nat):It:=⟨fun i _=>i<n,fun i H x H'=>H'=H∧x = .int (lo+i),fun i _=>n≤i⟩
theorem Fm {P:Program} {w:World} {K:PySem.W.Frag} {tg:Expr} (a it:Addr):Turn P w K tg (Itl K a) [it] it (fun i h=>h.IsListIter it a i) where
 mem:=by simp
 obj:=fun i h st b hb=>by
  have e:b=it:=by simpa using hb
  subst e
  obtain ⟨o,e,c,d⟩:=st
  exact ⟨o,e,fun v z=>by rw [d] at z;cases z⟩
 keep:=fun i h h' st k=>st.at fun o e=>k it (by simp) o e
 item:=by
  intro X hP hw hK hc i pins s σ H E I hf st hg
  subst hP hw hK
  obtain ⟨xs,x,hq,hx⟩:=hg
  obtain ⟨its,rv,p,hz⟩:=I.list hq
  obtain ⟨u,hu,ru⟩:=rv.get hx
  obtain ⟨f0,f1,f2,f3,f4,f5⟩:=hf it (by simp)
  refine wpAny_pyNext_list_item st p.isList (x:=u) (by simpa using hu) fun h' st' sb=>?_
  have I1:Inv X pins σ H {s with heap:=h'}:=I.turned (t':=s.toks) (fun b o hb e=>(sb.2 b hb).trans e) f0 f1 f3 f4 f5
  obtain ⟨o,e,c,d⟩:=id st'
  exact ⟨u,rfl,E5 (s:={s with heap:=h'}) e c d (by decide) ⟨x,H,I1,ru,⟨rfl,fun ys hy=>by rw [I.CF hy hq];exact hx⟩,st',fun b hb=>(hf b hb).1⟩⟩
 done:=by
  intro X hP hw hK hc i pins s σ H E I hf st hg
  subst hP hw hK
  obtain ⟨xs,hq,hx⟩:=hg
  obtain ⟨its,rv,p,hz⟩:=I.list hq
  obtain ⟨f0,f1,f2,f3,f4,f5⟩:=hf it (by simp)
  have hl:=rv.length
  exact wpAny_pyNext_list_end (I.ok.hd hc) st p.isList (by simp;omega) fun h' eb=>⟨rfl,I.turned (t':=s.toks) (fun b o hb e=>eb b o hb e) f0 f1 f3 f4 f5⟩
 self:=fun _ _ _ _ _ st h=>wpAny_pyIter_listiter st h
theorem C_ {P:Program} {w:World} {K:PySem.W.Frag} {tg:Expr} (a it:Addr):Turn P w K tg (Itt K a) [it] it (fun i h=>h.IsTupleIter it a i) where
 mem:=by simp
 obj:=fun i h st b hb=>by
  have e:b=it:=by simpa using hb
  subst e
  obtain ⟨o,e,c,d⟩:=st
  exact ⟨o,e,fun v z=>by rw [d] at z;cases z⟩
 keep:=fun i h h' st k=>st.at fun o e=>k it (by simp) o e
 item:=by
  intro X hP hw hK hc i pins s σ H E I hf st hg
  subst hP hw hK
  obtain ⟨xs,x,hq,hx⟩:=hg
  obtain ⟨its,rv,p,hz⟩:=I.tuple hq
  obtain ⟨u,hu,ru⟩:=rv.get hx
  obtain ⟨f0,f1,f2,f3,f4,f5⟩:=hf it (by simp)
  refine wpAny_pyNext_tuple_item st (show s.heap.IsTuple a its.toArray from p) (x:=u) (by simpa using hu) fun h' st' sb=>?_
  have I1:Inv X pins σ H {s with heap:=h'}:=I.turned (t':=s.toks) (fun b o hb e=>(sb.2 b hb).trans e) f0 f1 f3 f4 f5
  obtain ⟨o,e,c,d⟩:=id st'
  exact ⟨u,rfl,E5 (s:={s with heap:=h'}) e c d (by decide) ⟨x,H,I1,ru,⟨rfl,fun ys hy=>by rw [I.Ai hy hq];exact hx⟩,st',fun b hb=>(hf b hb).1⟩⟩
 done:=by
  intro X hP hw hK hc i pins s σ H E I hf st hg
  subst hP hw hK
  obtain ⟨xs,hq,hx⟩:=hg
  obtain ⟨its,rv,p,hz⟩:=I.tuple hq
  obtain ⟨f0,f1,f2,f3,f4,f5⟩:=hf it (by simp)
  have hl:=rv.length
  exact wpAny_pyNext_tuple_end (I.ok.hd hc) st (show s.heap.IsTuple a its.toArray from p) (by simp;omega) fun h' eb=>⟨rfl,I.turned (t':=s.toks) (fun b o hb e=>eb b o hb e) f0 f1 f3 f4 f5⟩
 self:=fun _ _ _ _ _ st h=>wpAny_pyIter_tupleiter st h
theorem Dc {P:Program} {w:World} {K:PySem.W.Frag} {tg:Expr} (it:Addr) (lo:Int) (n:Nat):Turn P w K tg (GR lo n) [it] it (fun i h=>IsRangeIter h it (lo+(i:Nat)*1) ((n:Int) - (i:Nat)) 1) where
 mem:=by simp
 obj:=fun i h st b hb=>by
  have e:b=it:=by simpa using hb
  subst e
  exact ⟨_,st,fun v z=>by
   have z':Data.fields _=Data.cell v:=z
   cases z'⟩
 keep:=fun i h h' st k=>k it (by simp) _ st
 item:=by
  intro X hP hw hK hc i pins s σ H E I hf st hg
  subst hP hw hK
  obtain ⟨f0,f1,f2,f3,f4,f5⟩:=hf it (by simp)
  have W:=Walks.range (prog:=X.prog) (w:=X.w) (I.ok.hd hc) it lo 1 n
  refine W.item i s _ _ hg st fun v h' tk hv st' kk=>?_
  obtain ⟨t,rfl⟩:=hv
  have I1:Inv X pins σ H {s with heap:=h',toks:=tk}:=I.turned (fun b o hb e=>kk b o (by simpa using hb) e) f0 f1 f3 f4 f5
  refine ⟨_,rfl,E5 (s:={s with heap:=h',toks:=tk}) (n:="range_iterator") st' rfl rfl (by decide) ⟨.int (lo+i),H,I1,⟨t,?_⟩,⟨rfl,rfl⟩,st',fun b hb=>(hf b hb).1⟩⟩
  rw [Int.mul_one]
 done:=by
  intro X hP hw hK hc i pins s σ H E I hf st hg
  subst hP hw hK
  obtain ⟨f0,f1,f2,f3,f4,f5⟩:=hf it (by simp)
  exact wpAny_pyNext_range_end (I.ok.hd hc) st (by have:n≤i:=hg;omega) fun h' eb=>⟨rfl,I.turned (t':=s.toks) (fun b o hb e=>eb b o hb e) f0 f1 f3 f4 f5⟩
 self:=fun _ _ _ _ _ st h=>wpAny_pyIter_rangeiter st h
section
variable {X:Cx} {tg:Expr}
theorem Hc {pins:List (Addr×Obj)} {σ:St} {H:Hp} {s:Shared} {R:It→Hp→Prop} {E:Value→Shared→Prop} {lo hi:Int} {t u v:Tok} {tk:Nat} (I:Inv X pins σ H s) (h1 : -(2 ^ 62)≤lo) (h2:lo<2 ^ 62) (h3 : -(2 ^ 62)≤hi) (h4:hi<2 ^ 62)
  (q:R (GR lo (hi - lo).toNat) H):wpAny (model X.prog X.w) X.A (pyIter (.ref s.heap.objs.size)) (PIE X pins σ tg R) E {s with heap:=s.heap.push {cls:= .type "range",data:= .fields #[.int lo t,.int hi u,.int 1 v]},toks:=tk}:=by
 refine wpAny_pyIter_range (IsRange.new ..) (small_one h1 h2 h3 h4) ?_
 have I1:Inv X pins σ H {s with heap:=s.heap.push {cls:= .type "range",data:= .fields #[.int lo t,.int hi u,.int 1 v]},toks:=tk}:=I.kept fun b o e=>Heap.get?_push_of_some _ e
 refine ⟨(s.heap.push {cls:= .type "range",data:= .fields #[.int lo t,.int hi u,.int 1 v]}).objs.size,[(s.heap.push {cls:= .type "range",data:= .fields #[.int lo t,.int hi u,.int 1 v]}).objs.size],_,_,H,rfl,
  I1.kept (t':=tk) fun b o e=>Heap.get?_push_of_some _ e,Dc _ lo (hi - lo).toNat,?_,fun b hb=>?_,q⟩
 ·
  have e1:lo+((0:Nat):Int)*1=lo:=by simp
  have e2:(((hi - lo).toNat:Nat):Int) - ((0:Nat):Int)=Builtin.Range.rangeSize lo hi 1:=by rw [rangeSize_one];split<;>omega
  show IsRangeIter _ _ (lo+((0:Nat):Int)*1) ((((hi - lo).toNat:Nat):Int) - ((0:Nat):Int)) 1
  rw [e1,e2]
  exact Heap.get?_push_size _ rfl
 ·
  have e:b=(s.heap.push {cls:= .type "range",data:= .fields #[.int lo t,.int hi u,.int 1 v]}).objs.size:=by simpa using hb
  subst e
  exact I1.CL (Nat.le_refl _) (I1.hok.fresh (Nat.le_refl _))
def Df (wi:TI) (g:TG) (tb:TS):TS:=fun D σ H=>wi σ H fun J H1=> ∃W:Nat→Nat→St→Hp→Prop,(∃m,W 0 m σ H1)∧∀i m σ H,W i m σ H→
 (J.stop i H∧D.nx σ H)∨(J.go i H∧∃N:St→Hp→Prop,(∀σ' H',N σ' H'→∃m',m'<m∧W (i+1) m' σ' H')∧∀x H',J.yld i H x H'→g x σ H' fun σ2 H2=>tb {D with nx:=N,ct:=N,bk:=D.nx} σ2 H2)
noncomputable def yf (fp:List Addr) (h:Heap):List (Addr×Obj):=fp.filterMap fun b=>(h.get? b).map fun o=>(b,o)
theorem oK {fp:List Addr} {h:Heap} {b:Addr} {o:Obj} (hb:b∈fp) (e:h.get? b=some o):(b,o)∈yf fp h:=List.mem_filterMap.mpr ⟨b,hb,by rw [e];rfl⟩
theorem Gi {fp:List Addr} {h:Heap} {p:Addr×Obj} (hp:p∈yf fp h):p.1∈fp∧h.get? p.1=some p.2:=by
 obtain ⟨b,hb,e⟩:=List.mem_filterMap.mp hp
 cases q:h.get? b with
 |none=>rw [q] at e;cases e
 |some o=>
  rw [q] at e
  have e':(b,o)=p:=Option.some.inj e
  subst e'
  exact ⟨hb,q⟩
theorem Inv.pinned {pins:List (Addr×Obj)} {σ:St} {H:Hp} {s:Shared} {fp:List Addr} (I:Inv X pins σ H s) (hf: ∀b∈fp,xH X pins H b) (ho: ∀b∈fp,∃o,s.heap.get? b=some o∧∀v,o.data≠ .cell v):Inv X (pins++yf fp s.heap) σ H s:=
 I.xK fun p hp=>(List.mem_append.mp hp).elim (fun z=>I.pin p (List.mem_append_right _ z)) fun z=>by
  obtain ⟨hb,e⟩:=Gi z
  obtain ⟨f0,f1,f2,_⟩:=hf p.1 hb
  obtain ⟨o,e',d⟩:=ho p.1 hb
  rw [e] at e';cases e'
  exact ⟨e,f0,f1,f2,d⟩
theorem Inv.unpinned {pins pl:List (Addr×Obj)} {σ:St} {H:Hp} {s:Shared} (I:Inv X (pins++pl) σ H s):Inv X pins σ H s:=I.xK fun p hp=>I.pin p (List.mem_append_right _ (List.mem_append_left _ hp))
theorem DM {iter:Expr} {body:List Stmt} {wi:TI} {g:TG} {tb:TS} {pos:Pos} (hp:PassesOwn (model X.prog X.w) X.A X.env X.xe) (hc:X.calm=true) (hi:PI X tg iter wi) (hg:PG X tg g) (hb:y_ X body tb)
  (hs: ∀x,foldedSetIterable iter X.env x=pure x:=by intro _;rfl):PS X (.For tg iter body [] pos) (Df wi g tb):=by
 intro pins s σ H D I h
 refine wpAny_For (thn (hi pins s σ H _ I h) fun v s1 h1=>thn h1 fun itv s2 h2=>?_) hs
 obtain ⟨it,fp,tn,J,H2,e,I2,T,st2,f2,W,⟨m0,w0⟩,turn⟩:=h2
 subst e

 have stat: ∀{H':Hp},(∀b∈fp,H' b=none)→∀b∈fp,xH X pins H' b:=fun hn b hb=>⟨hn b hb,(f2 b hb).2⟩
 refine codeAny_forLoop_any (fun n s'=> ∃i σ' H',Inv X pins σ' H' s'∧tn i s'.heap∧(∀b∈fp,H' b=none)∧W i n σ' H') ?_ m0 ⟨0,σ,H2,I2,st2,fun b hb=>(f2 b hb).1,w0⟩
 rintro n s3 ⟨i,σ3,H3,I3,st3,fr3,w3⟩
 rcases turn i n σ3 H3 w3 with ⟨stop,qn⟩|⟨go,N,hN,step⟩
 ·
  refine wpAny_passesOwn hp (thn (T.done X rfl rfl rfl hc i pins s3 σ3 H3 X.xe I3 (stat fr3) st3 stop) fun r s4 ⟨hr,I4⟩=>?_)
  subst hr
  exact wpAny_execs_nil ⟨σ3,H3,I4,qn⟩
 ·
  refine wpAny_passesOwn hp (thn (T.item X rfl rfl rfl hc i pins s3 σ3 H3 X.xe I3 (stat fr3) st3 go) fun r s4 ⟨u,hr,h4⟩=>?_)
  subst hr
  refine wpAny_passesOwn hp (thn h4 fun _ s5 ⟨x,H5,I5,r5,y5,st5,fr5⟩=>?_)
  have I5':=I5.pinned (stat fr5) (T.obj _ _ st5)
  refine wpAny_passesOwn hp (thn (hg _ s5 σ3 H5 x u _ I5' r5 (step x H5 y5)) fun _ s6 ⟨σ6,H6,I6,q6⟩=>?_)
  refine wpAny_passesOwn hp (thn (hb _ s6 σ6 H6 _ I6 q6) fun f s7 q7=>?_)
  have again: ∀{σ7:St} {H7:Hp},Inv X (pins++yf fp s5.heap) σ7 H7 s7→N σ7 H7→∃m,m<n∧∃i σ' H',Inv X pins σ' H' s7∧tn i s7.heap∧(∀b∈fp,H' b=none)∧W i m σ' H':=fun {σ7 H7} I7 n7=>by
   obtain ⟨m',hm,w7⟩:=hN σ7 H7 n7
   refine ⟨m',hm,i+1,σ7,H7,I7.unpinned,T.keep _ _ _ st5 fun b hb o e=>(I7.pin (b,o) (List.mem_append_right _ (List.mem_append_right _ (oK hb e)))).1,fun b hb=>?_,w7⟩
   obtain ⟨o,e,d⟩:=T.obj _ _ st5 b hb
   exact (I7.pin (b,o) (List.mem_append_right _ (List.mem_append_right _ (oK hb e)))).2.1
  cases f with
  |next=>obtain ⟨σ7,H7,I7,n7⟩:=q7;exact again I7 n7
  |cont=>obtain ⟨σ7,H7,I7,n7⟩:=q7;exact again I7 n7
  |brk=>obtain ⟨σ7,H7,I7,q7⟩:=q7;exact ⟨σ7,H7,I7.unpinned,q7⟩
  |ret v=>obtain ⟨x7,σ7,H7,I7,r7,q7⟩:=q7;exact ⟨x7,σ7,H7,I7.unpinned,r7,q7⟩
end
theorem GD {lo:Int} {n:Nat} {g:TG} {tb:TS} {D:Ends} {σ:St} {H:Hp} (Pv:Nat→St→Hp→Prop) (h0:Pv 0 σ H)
  (hs: ∀i σ H,i<n→Pv i σ H→g (.int (lo+i)) σ H fun σ2 H2=>tb {D with nx:=Pv (i+1),ct:=Pv (i+1),bk:=D.nx} σ2 H2) (hd: ∀σ H,Pv n σ H→D.nx σ H):
  ∃W:Nat→Nat→St→Hp→Prop,(∃m,W 0 m σ H)∧∀i m σ H,W i m σ H→
   ((GR lo n).stop i H∧D.nx σ H)∨((GR lo n).go i H∧∃N:St→Hp→Prop,(∀σ' H',N σ' H'→∃m',m'<m∧W (i+1) m' σ' H')∧∀x H',(GR lo n).yld i H x H'→g x σ H' fun σ2 H2=>tb {D with nx:=N,ct:=N,bk:=D.nx} σ2 H2):=by
 refine ⟨fun i m σ H=>m=n - i∧i≤n∧Pv i σ H,⟨n,by simp,Nat.zero_le _,h0⟩,?_⟩
 rintro i m σ H ⟨rfl,hi,p⟩
 by_cases hlt:i<n
 ·
  refine .inr ⟨hlt,Pv (i+1),fun σ' H' p'=>⟨n - (i+1),by omega,rfl,hlt,p'⟩,fun x H' y=>?_⟩
  obtain ⟨e,y⟩:=y
  subst e y
  exact hs i σ _ hlt p
 ·
  have e:i=n:=by omega
  subst e
  exact .inl ⟨Nat.le_refl _,hd σ H p⟩
noncomputable abbrev R2:=V→V→Hp→VK→Prop
def my (X:Cx) (f:Value→Value→Sem Value) (r:R2):Prop:=
 ∀(pins:List (Addr×Obj)) (s:Shared) (σ:St) (H:Hp) (x y:V) (v u:Value) (Q:VK),Inv X pins σ H s→RelV x v→RelV y u→r x y H Q→
  wpAny (model X.prog X.w) X.A (f v u) (EP X pins σ Q) X.xe s
def UnR (X:Cx) (f:Value→Sem Value) (r:V→Hp→VK→Prop):Prop:=
 ∀(pins:List (Addr×Obj)) (s:Shared) (σ:St) (H:Hp) (x:V) (v:Value) (Q:VK),Inv X pins σ H s→RelV x v→r x H Q→
  wpAny (model X.prog X.w) X.A (f v) (EP X pins σ Q) X.xe s
def bQ (X:Cx) (f:Value) (r:List V→Hp→VK→Prop):Prop:=
 ∀(pins:List (Addr×Obj)) (s:Shared) (σ:St) (H:Hp) (xs:List V) (us:List Value) (Q:VK),Inv X pins σ H s→Vals xs us→r xs H Q→
  wpAny (model X.prog X.w) X.A (call f us) (EP X pins σ Q) X.xe s
def RN (r:R2) (ta tb:TE):TE:=fun σ H Q=>ta σ H fun x H1=>tb σ H1 fun y H2=>r x y H2 Q
def tUn (r:V→Hp→VK→Prop) (ta:TE):TE:=fun σ H Q=>ta σ H fun x H1=>r x H1 Q
def rI (C:Int→Int→Prop) (g:Int→Int→V):R2:=fun x y H Q=> ∃i j,x = .int i∧y = .int j∧C i j∧Q (g i j) H
def Kw (g:Int→Int→V):R2:=fun x y H Q=> ∃i j,x = .int i∧y = .int j∧Q (g i j) H
def rU (g:Int→V):V→Hp→VK→Prop:=fun x H Q=> ∃i,x = .int i∧Q (g i) H
section
variable {X:Cx} {a b c:Expr} {ta tb tc:TE} {pos:Pos}
theorem RH (ha:PE X a ta) (hb:PE X b tb) {pins:List (Addr×Obj)} {s:Shared} {σ:St} {H:Hp} {R:V→V→Hp→Prop} (I:Inv X pins σ H s)
  (h:ta σ H fun x H1=>tb σ H1 fun y H2=>R x y H2) {Q:Value→Shared→Prop} {f:Value→Value→Sem Value}
  (hf: ∀v u s2 x y H2,Inv X pins σ H2 s2→RelV x v→RelV y u→R x y H2→wpAny (model X.prog X.w) X.A (f v u) Q X.xe s2):
  wpAny (model X.prog X.w) X.A (eval a X.env) (fun v s₁=>wpAny (model X.prog X.w) X.A (eval b X.env) (fun u s₂=>wpAny (model X.prog X.w) X.A (f v u) Q X.xe s₂) X.xe s₁) X.xe s:=by
 refine thn (ha pins s σ H _ I h) fun v s1 ⟨x,H1,I1,r1,q1⟩=>?_
 refine thn (hb pins s1 σ H1 _ I1 q1) fun u s2 ⟨y,H2,I2,r2,q2⟩=>?_
 exact hf v u s2 x y H2 I2 r1 r2 q2
theorem aN {op:Operator} {r:R2} (ho:my X (binaryOp op) r) (ha:PE X a ta) (hb:PE X b tb):PE X (.BinOp a op b pos) (RN r ta tb):=by
 intro pins s σ H Q I h
 exact wpAny_BinOp (RH ha hb I h fun v u s2 x y H2 I2 rx ry q=>ho pins s2 σ H2 x y v u Q I2 rx ry q)
theorem Sr {op:UnaryOp} {r:V→Hp→VK→Prop} (ho:UnR X (unaryOp op) r) (ha:PE X a ta):PE X (.UnaryOp op a pos) (tUn r ta):=by
 intro pins s σ H Q I h
 exact UnaryOp_ (thn (ha pins s σ H _ I h) fun v s1 ⟨x,H1,I1,r1,q1⟩=>ho pins s1 σ H1 x v Q I1 r1 q1)
theorem opI {f:Value→Value→Sem Value} {C:Int→Int→Prop} {g:Int→Int→Int}
  (rule: ∀(i j:Int) (t u:Tok) (s:Shared) (Q:Value→Shared→Prop) (E:Value→Shared→Prop),C i j→Q (.int (g i j) s.toks) {s with toks:=s.toks+1}→wpAny (model X.prog X.w) X.A (f (.int i t) (.int j u)) Q E s):
  my X f (rI C fun i j=> .int (g i j)):=by
 intro pins s σ H x y v u Q I rx ry h
 obtain ⟨i,j,rfl,rfl,hc,q⟩:=h
 obtain ⟨t,rfl⟩:=rx
 obtain ⟨t',rfl⟩:=ry
 exact rule i j t t' s _ _ hc ⟨.int (g i j),H,I.tok _,⟨_,rfl⟩,q⟩
theorem Sz {f:Value→Value→Sem Value} {g:Int→Int→Int}
  (rule: ∀(i j:Int) (t u:Tok) (s:Shared) (Q:Value→Shared→Prop) (E:Value→Shared→Prop),Q (.int (g i j) s.toks) {s with toks:=s.toks+1}→wpAny (model X.prog X.w) X.A (f (.int i t) (.int j u)) Q E s):
  my X f (Kw fun i j=> .int (g i j)):=by
 intro pins s σ H x y v u Q I rx ry h
 obtain ⟨i,j,rfl,rfl,q⟩:=h
 obtain ⟨t,rfl⟩:=rx
 obtain ⟨t',rfl⟩:=ry
 exact rule i j t t' s _ _ ⟨.int (g i j),H,I.tok _,⟨_,rfl⟩,q⟩
theorem KW {f:Value→Value→Sem Value} {g:Int→Int→Bool}
  (rule: ∀(i j:Int) (t u:Tok) (s:Shared) (Q:Value→Shared→Prop) (E:Value→Shared→Prop),Q (.bool (g i j)) s→wpAny (model X.prog X.w) X.A (f (.int i t) (.int j u)) Q E s):
  my X f (Kw fun i j=> .bl (g i j)):=by
 intro pins s σ H x y v u Q I rx ry h
 obtain ⟨i,j,rfl,rfl,q⟩:=h
 obtain ⟨t,rfl⟩:=rx
 obtain ⟨t',rfl⟩:=ry
 exact rule i j t t' s _ _ ⟨.bl (g i j),H,I,rfl,q⟩
def LC (i j:Int):Prop:=0<j∧j<1073741824
def LB (i j:Int):Prop:=(-(2 ^ 64)<i∧i<2 ^ 64)∨(-(2 ^ 64)<j∧j<2 ^ 64)
theorem LB.ok {i j:Int} (h:LB i j):IntMulOk i j:=by
 rcases h with ⟨h1,h2⟩|⟨h1,h2⟩
 ·exact .of_left (intBits_le_64 h1 h2)
 ·exact .of_right (intBits_le_64 h1 h2)
theorem Ql:my X (binaryOp .Add) (Kw fun i j=> .int (i+j)):=Sz fun _ _ _ _ _ _ _ q=>add_int q
theorem lY:my X (binaryOp .Sub) (Kw fun i j=> .int (i - j)):=Sz fun _ _ _ _ _ _ _ q=>sub_int q
theorem yi:my X (binaryOp .Mult) (rI LB fun i j=> .int (i*j)):=opI fun _ _ _ _ _ _ _ hc q=>mul_int q hc.ok
theorem bF:my X (binaryOp .FloorDiv) (rI LC fun i j=> .int (i / j)):=opI fun i j _ _ _ _ _ hc q=>by
 have h1:(0:Int)<j:=hc.1
 have h2:j<1073741824:=hc.2
 exact floordiv_int (by omega) (by rw [Int.fdiv_eq_ediv_of_nonneg i (by omega)];exact q) (.inl (PyProof.noPylong_small (by omega)))
theorem bE:my X (binaryOp .Mod) (rI (fun _ j=>0<j) fun i j=> .int (i % j)):=opI fun i j _ _ _ _ _ hc q=>by
 have h1:(0:Int)<j:=hc
 exact mod_int' (by omega) (by rw [Int.fmod_eq_emod_of_nonneg i (by omega)];exact q)
theorem unI {f:Value→Sem Value} {g:Int→Int}
  (rule: ∀(i:Int) (t:Tok) (s:Shared) (Q:Value→Shared→Prop) (E:Value→Shared→Prop),Q (.int (g i) s.toks) {s with toks:=s.toks+1}→wpAny (model X.prog X.w) X.A (f (.int i t)) Q E s):
  UnR X f (rU fun i=> .int (g i)):=by
 intro pins s σ H x v Q I rx h
 obtain ⟨i,rfl,q⟩:=h
 obtain ⟨t,rfl⟩:=rx
 exact rule i t s _ _ ⟨.int (g i),H,I.tok _,⟨_,rfl⟩,q⟩
theorem Pf:UnR X (unaryOp .USub) (rU fun i=> .int (-i)):=unI fun _ _ _ _ _ q=>neg_int q
end
noncomputable def scal:V→V→Bool
 | .non,.non=>true | .non,.int _=>true | .int _,.non=>true | .non,.bl _=>true | .bl _,.non=>true | .non,.str _=>true | .str _,.non=>true
 | .int _,.int _=>true | .bl _,.bl _=>true | .str _,.str _=>true | .byt _,.byt _=>true
 | .int _,.str _=>true | .str _,.int _=>true | .bl _,.str _=>true | .str _,.bl _=>true
 |_,_=>false
def P0:R2:=fun x y H Q=>scal x y=true∧Q (.bl (decide (x=y))) H
def RP:R2:=fun x y H Q=>scal x y=true∧Q (.bl (!decide (x=y))) H
theorem Lr {i j:Int}:decide (V.int i=V.int j)=(i == j):=by
 rw [Bool.eq_iff_iff]
 simp
theorem RB {i j:Bool}:decide (V.bl i=V.bl j)=(i == j):=by
 rw [Bool.eq_iff_iff]
 simp
theorem Lq {i j:Str}:decide (V.str i=V.str j)=(i == j):=by
 rw [Bool.eq_iff_iff]
 simp
theorem Ls {i j:Array UInt8}:decide (V.byt i=V.byt j)=(i.toList == j.toList):=by
 rw [Bool.eq_iff_iff]
 cases i
 cases j
 simp
section
variable {X:Cx} {a b c:Expr} {ta tb tc:TE} {pos:Pos}
theorem cO {pins:List (Addr×Obj)} {σ:St} {H:Hp} {s:Shared} {Q:VK} {k k':Bool} (I:Inv X pins σ H s) (q:Q (.bl k) H) (e:k=k'):EP X pins σ Q (.bool k') s:=by
 subst e
 exact ⟨.bl k,H,I,rfl,q⟩
theorem Sy:my X (compareOp .Eq) P0:=by
 intro pins s σ H x y v u Q I rx ry h
 obtain ⟨hs,q⟩:=h
 cases x with
 |non=>
  cases rx
  cases y with
  |non=>cases ry;exact PySem.EqNone.eq_none_none (cO I q (by simp))
  |bl j=>cases ry;exact PySem.EqNone.eq_none_bool (cO I q (by simp))
  |int j=>obtain ⟨t',rfl⟩:=ry;exact PySem.EqNone.eq_none_int (cO I q (by simp))
  |str j=>obtain ⟨t',rfl⟩:=ry;exact PySem.EqNone.eq_none_str (cO I q (by simp))
  |_=>exact absurd (show false=true from hs) Bool.false_ne_true
 |bl i=>
  cases rx
  cases y with
  |non=>cases ry;exact PySem.EqNone.eq_bool_none (cO I q (by simp))
  |bl j=>cases ry;exact eq_bool (cO I q RB)
  |str j=>obtain ⟨t',rfl⟩:=ry;exact PySem.EqMixed.eq_bool_str (cO I q (by simp))
  |_=>exact absurd (show false=true from hs) Bool.false_ne_true
 |int i=>
  obtain ⟨t,rfl⟩:=rx
  cases y with
  |non=>cases ry;exact PySem.EqNone.eq_int_none (cO I q (by simp))
  |int j=>obtain ⟨t',rfl⟩:=ry;exact eq_int (cO I q Lr)
  |str j=>obtain ⟨t',rfl⟩:=ry;exact PySem.EqMixed.eq_int_str (cO I q (by simp))
  |_=>exact absurd (show false=true from hs) Bool.false_ne_true
 |str i=>
  obtain ⟨t,rfl⟩:=rx
  cases y with
  |non=>cases ry;exact PySem.EqNone.eq_str_none (cO I q (by simp))
  |bl j=>cases ry;exact PySem.EqMixed.eq_str_bool (cO I q (by simp))
  |int j=>obtain ⟨t',rfl⟩:=ry;exact PySem.EqMixed.eq_str_int (cO I q (by simp))
  |str j=>obtain ⟨t',rfl⟩:=ry;exact eq_str (cO I q Lq)
  |_=>exact absurd (show false=true from hs) Bool.false_ne_true
 |byt i=>
  obtain ⟨t,rfl⟩:=rx
  cases y with
  |byt j=>obtain ⟨t',rfl⟩:=ry;exact PySem.W.eq_bytes (cO I q Ls)
  |_=>exact absurd (show false=true from hs) Bool.false_ne_true
 |_=>cases y<;>exact absurd (show false=true from hs) Bool.false_ne_true
theorem LQ:my X (compareOp .Lt) (Kw fun i j=> .bl (decide (i<j))):=KW fun _ _ _ _ _ _ _ q=>lt_int q
theorem nC:my X (compareOp .LtE) (Kw fun i j=> .bl (decide (i≤j))):=KW fun _ _ _ _ _ _ _ q=>le_int q
theorem HY:my X (compareOp .Gt) (Kw fun i j=> .bl (decide (j<i))):=KW fun _ _ _ _ _ _ _ q=>gt_int q
theorem Sw:my X (compareOp .GtE) (Kw fun i j=> .bl (decide (j≤i))):=KW fun _ _ _ _ _ _ _ q=>ge_int q
theorem Gf:my X (compareOp .In) (fun x y H Q=> ∃i j,x = .str i∧y = .str j∧Q (.bl (!(Builtin.Str.occurrences j i 0 j.length 1).isEmpty)) H):=by
 intro pins s σ H x y v u Q I rx ry h
 obtain ⟨i,j,rfl,rfl,q⟩:=h
 obtain ⟨t,rfl⟩:=rx
 obtain ⟨t',rfl⟩:=ry
 exact in_str (cO I q rfl)
theorem Qh:my X (compareOp .Is) (fun x y H Q=>y = .non∧Q (.bl (decide (x = .non))) H):=by
 intro pins s σ H x y v u Q I rx ry h
 obtain ⟨rfl,q⟩:=h
 cases ry
 refine is_none_gen (cO I q ?_)
 cases x<;>first
  |(cases rx;rfl)
  |(obtain ⟨t,rfl⟩:=rx;rfl)
theorem KR:my X (compareOp .IsNot) (fun x y H Q=>y = .non∧Q (.bl (!decide (x = .non))) H):=by
 intro pins s σ H x y v u Q I rx ry h
 obtain ⟨rfl,q⟩:=h
 cases ry
 refine isnot_none_gen (cO I q ?_)
 cases x<;>first
  |(cases rx;rfl)
  |(obtain ⟨t,rfl⟩:=rx;rfl)
theorem my.or {f:Value→Value→Sem Value} {r r':R2} (h:my X f r) (h':my X f r'):my X f (fun x y H Q=>r x y H Q∨r' x y H Q):=by
 intro pins s σ H x y v u Q I rx ry q
 rcases q with q|q
 ·exact h pins s σ H x y v u Q I rx ry q
 ·exact h' pins s σ H x y v u Q I rx ry q
theorem nomark (b:Expr) {op:CmpOp} (h:op≠ .In:=by decide) (h2:op≠ .NotIn:=by decide):behindInMarks op b=false:=by
 have e1:(op == CmpOp.In)=false:=by cases op<;>first|rfl|exact absurd rfl h
 have e2:(op == CmpOp.NotIn)=false:=by cases op<;>first|rfl|exact absurd rfl h2
 cases b<;>simp [behindInMarks,e1,e2]
theorem bM {op:CmpOp} {r:R2} (ho:my X (compareOp op) r) (ha:PE X a ta) (hb:PE X b tb) (hm:behindInMarks op b=false):PE X (.Compare a [op] [b] pos) (RN r ta tb):=by
 intro pins s σ H Q I h
 exact wpAny_Compare1 (RH ha hb I h fun v u s2 x y H2 I2 rx ry q=>ho pins s2 σ H2 x y v u Q I2 rx ry q) hm
def LD (t:TE):TT:=fun σ H Q=>t σ H fun x H'=> ∃k,x = .bl k∧Q k H'
theorem bR {op:CmpOp} {r:R2} (ho:my X (compareOp op) r) (ha:PE X a ta) (hb:PE X b tb) (hm:behindInMarks op b=false):PT X (.Compare a [op] [b] pos) (LD (RN r ta tb)):=by
 intro pins s σ H Q I h
 refine wpAny_isTrue_Compare1 (thn (ha pins s σ H _ I h) fun v s1 ⟨x,H1,I1,r1,q1⟩=>thn (hb pins s1 σ H1 _ I1 q1) fun u s2 ⟨y,H2,I2,r2,q2⟩=>
  thn (ho pins s2 σ H2 x y v u _ I2 r1 r2 q2) fun c s3 ⟨z,H3,I3,r3,k,e,q3⟩=>?_) hm
 subst e
 cases r3
 exact wpAny_truthy_bool ⟨H3,I3,q3⟩
def G3 (r r':R2) (ta tb tc:TE):TE:=fun σ H Q=>ta σ H fun x H1=>tb σ H1 fun y H2=>r x y H2 fun z H3=> ∃k,z = .bl k∧
 (if k=true then tc σ H3 fun w' H4=>r' y w' H4 Q else Q (.bl false) H3)
theorem lX {op op':CmpOp} {r r':R2} (ho:my X (compareOp op) r) (ho':my X (compareOp op') r') (ha:PE X a ta) (hb:PE X b tb) (hc:PE X c tc)
  (hm:lastMarks [op,op'] [b,c]=false:=by with_unfolding_all rfl):PE X (.Compare a [op,op'] [b,c] pos) (G3 r r' ta tb tc):=by
 intro pins s σ H Q I h
 refine Compare_chain (thn (ha pins s σ H _ I h) fun v s1 ⟨x,H1,I1,r1,q1⟩=>chain_link (thn (hb pins s1 σ H1 _ I1 q1) fun u s2 ⟨y,H2,I2,r2,q2⟩=>
  thn (ho pins s2 σ H2 x y v u _ I2 r1 r2 q2) fun d s3 ⟨z,H3,I3,r3,k,e,q3⟩=>?_)) hm
 subst e
 cases r3
 refine wpAny_truthy_bool ?_
 cases k with
 |false=>exact ite_ff ⟨.bl false,H3,I3,rfl,q3⟩
 |true=>exact ite_tt (chain_last (thn (hc pins s3 σ H3 _ I3 q3) fun w' s4 ⟨z',H4,I4,r4,q4⟩=>ho' pins s4 σ H4 y z' u w' Q I4 r2 r4 q4))
theorem yt:(sizeLine:Nat)<2 ^ 63:=by rw [sizeLine_eq];decide
theorem DR:my X (binaryOp .Add) (fun x y H Q=> ∃i j,x = .str i∧y = .str j∧i.length+j.length≤sizeLine∧Q (.str (i++j)) H):=by
 intro pins s σ H x y v u Q I rx ry h
 obtain ⟨i,j,rfl,rfl,hz,q⟩:=h
 obtain ⟨t,rfl⟩:=rx
 obtain ⟨t',rfl⟩:=ry
 exact add_str (fun t' tk=>⟨.str (i++j),H,I.tok _,⟨_,rfl⟩,q⟩) hz
theorem vals1 {x:V} {us:List Value} (r:Vals [x] us): ∃u,us= [u]∧RelV x u:=by
 cases r with
 |cons r1 r2=>cases r2;exact ⟨_,rfl,r1⟩
theorem vals2 {x y:V} {us:List Value} (r:Vals [x,y] us): ∃u w',us= [u,w']∧RelV x u∧RelV y w':=by
 cases r with
 |cons r1 r2=>
  cases r2 with
  |cons r3 r4=>cases r4;exact ⟨_,_,rfl,r1,r3⟩
theorem GL (hc:X.calm=true):bQ X (.builtin "max") (fun xs H Q=> ∃i j,xs= [.int i,.int j]∧Q (.int (if j > i then j else i)) H):=by
 intro pins s σ H xs us Q I r h
 obtain ⟨i,j,rfl,q⟩:=h
 obtain ⟨u,w',rfl,⟨t,rfl⟩,⟨t',rfl⟩⟩:=vals2 r
 refine max_two_ints (I.ok.hd hc) fun h' tk k=>⟨_,H,I.kept k,?_,q⟩
 by_cases hj:j > i
 ·rw [if_pos hj,if_pos hj];exact ⟨_,rfl⟩
 ·rw [if_neg hj,if_neg hj];exact ⟨_,rfl⟩
theorem GI (hc:X.calm=true):bQ X (.builtin "min") (fun xs H Q=> ∃i j,xs= [.int i,.int j]∧Q (.int (if j<i then j else i)) H):=by
 intro pins s σ H xs us Q I r h
 obtain ⟨i,j,rfl,q⟩:=h
 obtain ⟨u,w',rfl,⟨t,rfl⟩,⟨t',rfl⟩⟩:=vals2 r
 refine min_two_ints (I.ok.hd hc) fun h' tk k=>⟨_,H,I.kept k,?_,q⟩
 by_cases hj:j<i
 ·rw [if_pos hj,if_pos hj];exact ⟨_,rfl⟩
 ·rw [if_neg hj,if_neg hj];exact ⟨_,rfl⟩
end
structure Er (h:Heap) (x dx C:Addr) (mA:Str→Option Value):Prop where
 obj:h.get? x=some (PySem.W.instObj C dx)
 ns:h.Ns1 dx mA
 ne:dx≠x
theorem As {h:Heap} {dx:Addr} {mA:Str→Option Value} (n:h.Ns1 dx mA): ∃od,h.get? dx=some od∧∀name,PySem.W.lookIn name od=some (mA name):=by
 obtain ⟨o,es,ep,ho,hd,hk,_,hm⟩:=n
 refine ⟨o,ho,fun name=>?_⟩
 have e:=hm name
 unfold nsFind findBy at e
 rw [←Array.find?_toList] at e
 unfold PySem.W.lookIn
 rw [hd]
 dsimp only
 split
 ·
  rename_i y q
  rw [q] at e
  exact congrArg some e
 ·
  rename_i q
  rw [q] at e
  have a:es.toList.any (·.refKey)=false:=by
   rw [List.any_eq_false]
   intro y hy
   obtain ⟨z,t,hkey⟩:=hk y (Array.mem_toList_iff.mp hy)
   simp [DictEntry.refKey,hkey]
  have a': ¬es.toList.any (·.refKey)=true:=by rw [a];exact Bool.false_ne_true
  rw [if_neg a']
  exact congrArg some e
theorem Er.look {h:Heap} {x dx C:Addr} {mA:Str→Option Value} (I:Er h x dx C mA): ∃od,PySem.W.InstAt h x (PySem.W.instObj C dx) C (some od)∧∀name,PySem.W.lookIn name od=some (mA name):=
 let ⟨od,ho,hl⟩:=As I.ns
 ⟨od,⟨I.obj,rfl,rfl,ho⟩,hl⟩
section
variable {prog:Program} {w:World} {A:Around} {E:Value→Shared→Prop} {s:Shared} {K:PySem.W.Frag} {x dx C f:Addr} {mA:Str→Option Value} {name:Str} {v:Value}
theorem get_map {expr:Bool} {Q:Value→Shared→Prop} (X:K.In s.heap) (I:Er s.heap x dx C mA) (hg:PySem.W.plainGet K C name=true) (hh:PySem.W.hasDictIn K C=true)
  (ha:PySem.W.findIn K (.ref C) name=some none) (hv:mA name=some v) (hv':PySem.W.handedIn v=true) (h:Q v {s with toks:=s.toks+1}):
  wpAny (model prog w) A (getAttr (.ref x) name expr) Q E s:=by
 obtain ⟨od,J,hl⟩:=I.look
 exact PySem.W.get_value X J (PySem.W.plainGet_of hg).1 (PySem.W.findObj_own hh ha rfl (by rw [hl,hv])) hv' h
theorem Jn {pl:Sem Bool} {Q:Value×List Value→Shared→Prop} (X:K.In s.heap) (I:Er s.heap x dx C mA) (hg:PySem.W.plainGet K C name=true)
  (hf:PySem.W.findIn K (.ref C) name=some (some (.ref f))) (ht:PySem.W.isFn K (.ref f)=true) (hv:mA name=none) (h:Q (.ref f,[.ref x]) s):
  wpAny (model prog w) A (getMethod (.ref x) name pl) Q E s:=by
 obtain ⟨od,J,hl⟩:=I.look
 exact PySem.W.method_fn X J (PySem.W.plainGet_of hg).1 (PySem.W.plainGet_of hg).2 hf (beq_iff_eq.mp ht) (by show (PySem.W.lookIn name od).map (·.isSome)=some false;rw [hl,hv];rfl) h
theorem J5 {ns:List Str} {Q:Unit→Shared→Prop} (X:K.In s.heap) (I:Er s.heap x dx C mA)
  (hs:PySem.W.findIn K (.ref C) "__setattr__" = some (some (.builtin "object.__setattr__"))) (hp:PySem.W.plainOver K C=true) (ht:PySem.W.takerIn K C name=some none) (hh:PySem.W.hasDictIn K C=true)
  (hw:PySem.Within mA ns) (hsz:ns.length≤sizeLine)
  (h: ∀h',Er h' x dx C (fun y=>if y=name then some v else mA y)→Heap.SameBut dx s.heap h'→Q () {s with heap:=h',toks:=s.toks+2}):
  wpAny (model prog w) A (setAttr (.ref x) name v) Q E s:=by
 obtain ⟨od,J,hl⟩:=I.look
 refine PySem.W.set_plain X J hs (PySem.W.osa_open (s:={s with toks:=s.toks+1}) (r:=none) X J hp ht fun b=>?_)
 obtain ⟨cd,hc,hd'⟩:=PySem.W.any_some hh
 have hx:s.heap.get? x=some ⟨.ref C,some dx,.plain,#[]⟩:=I.obj
 refine wpAny_bind (wpAny_pure (wpAny_bind (wpAny_bind (wpAny_loadPart hx (wpAny_bind (PySem.W.Looks.here (s:={s with toks:=s.toks+1}) (PySem.W.looks_clsIn X hc) ?_))))))
 rw [hd']
 refine wpAny_pure (a:=some dx) (wpAny_bind (wpAny_pure (wpAny_bind ?_)))
 refine wpAny_nsSet1 (s:={s with toks:=s.toks+1}) I.ns fun h' hn2 hs2=>?_
 obtain ⟨oD,esD,epD,hoD,hdD,hcD⟩:=hn2.count (PySem.Within.cons name v hw)
 refine wpAny_bind (wpAny_lookBehind hoD (by rw [hdD];exact pastItsLine_dict (Nat.le_trans hcD (by rw [List.length_cons];omega))) ?_)
 exact wpAny_pure (h _ ⟨(hs2.2 _ (Ne.symm I.ne)).trans I.obj,hn2,I.ne⟩ hs2)
theorem CD {R:Result→Shared→Prop} {vs:List Value} {kw:List (Str×Value)} (X:K.In s.heap) (hm:PySem.W.makesIn K C=true)
  (hi:PySem.W.findIn K (.ref C) "__init__" = some (some (.ref f))) (hf:PySem.W.typeIn K (.ref f)=some (.type "function"))
  (
   h:codeAny (model prog w) (A.under (.builtin "type.__call__" ⟨.ref C::vs,kw⟩)) (.call (.ref f) ⟨.ref (s.heap.objs.size+1)::vs,kw⟩) (PySem.W.InitBack (s.heap.objs.size+1) R)
   {s with heap:=(s.heap.push PySem.W.emptyDict).push (PySem.W.instObj C s.heap.objs.size)}):
  codeAny (model prog w) A (.call (.ref C) ⟨vs,kw⟩) R s:=by
 obtain ⟨hh,g,d,t,os⟩:=s
 exact PySem.W.make_core (PySem.W.makes_of X hm) (PySem.W.looks_findIn X hi) (fun self=>PySem.W.bind_fn X self hf) (.inl rfl) h
theorem Gp {R:Result→Shared→Prop} (X:K.In s.heap) (hm:PySem.W.makesIn K C=true)
  (hi:PySem.W.findIn K (.ref C) "__init__" = some (some (.builtin "object.__init__")))
  (hb: ∀self,PySem.W.Looks (model prog w) s.heap (bindSpecial (.builtin "object.__init__") self) (.builtin "object.__init__",[self]))
  (
   h:codeAny (model prog w) (A.under (.builtin "type.__call__" ⟨[.ref C],[]⟩)) (.call (.builtin "object.__init__") ⟨[.ref (s.heap.objs.size+1)],[]⟩) (PySem.W.InitBack (s.heap.objs.size+1) R)
   {s with heap:=(s.heap.push PySem.W.emptyDict).push (PySem.W.instObj C s.heap.objs.size)}):
  codeAny (model prog w) A (.call (.ref C) ⟨[],[]⟩) R s:=by
 obtain ⟨hh,g,d,t,os⟩:=s
 exact PySem.W.make_core (PySem.W.makes_of X hm) (PySem.W.looks_findIn X hi) hb (.inr ⟨rfl,rfl⟩) h
end
noncomputable def bD (f:Str) (v:V):List (Str×V)→List (Str×V)
 | []=>[(f,v)]
 |(g,x)::r=>if g=f then (g,v)::r else (g,x)::bD f v r
theorem wc (f g:Str) (v:V): ∀fs:List (Str×V),(bD f v fs).lookup g=if g=f then some v else fs.lookup g
 | []=>by
  show List.lookup g [(f,v)]=_
  by_cases h:g=f
  ·
   have hb:(g == f)=true:=beq_iff_eq.mpr h
   simp only [List.lookup,hb,if_pos h]
  ·
   have hb:(g == f)=false:=beq_eq_false_iff_ne.mpr h
   simp only [List.lookup,hb,if_neg h]
 |(k,x)::r=>by
  have ih:=wc f g v r
  rw [show bD f v ((k,x)::r)=(if k=f then (k,v)::r else (k,x)::bD f v r) from rfl]
  by_cases hk:k=f
  ·
   rw [if_pos hk]
   by_cases h:g=k
   ·
    have hb:(g == k)=true:=beq_iff_eq.mpr h
    simp only [List.lookup,hb,if_pos (h.trans hk)]
   ·
    have hb:(g == k)=false:=beq_eq_false_iff_ne.mpr h
    simp only [List.lookup,hb,if_neg (fun e:g=f=>h (e.trans hk.symm))]
  ·
   rw [if_neg hk]
   by_cases h:g=k
   ·
    have hb:(g == k)=true:=beq_iff_eq.mpr h
    simp only [List.lookup,hb,if_neg (fun e:g=f=>hk (h.symm.trans e))]
   ·
    have hb:(g == k)=false:=beq_eq_false_iff_ne.mpr h
    simp only [List.lookup,hb]
    exact ih
theorem uY (f:Str) (v:V): ∀fs:List (Str×V),f∈(bD f v fs).map (·.1)∧∀g,g∈fs.map (·.1)→g∈(bD f v fs).map (·.1)
 | []=>⟨by simp [bD],fun g h=>by simp at h⟩
 |(k,x)::r=>by
  obtain ⟨i1,i2⟩:=uY f v r
  rw [show bD f v ((k,x)::r)=(if k=f then (k,v)::r else (k,x)::bD f v r) from rfl]
  by_cases hk:k=f
  ·
   rw [if_pos hk]
   subst hk
   exact ⟨by simp,fun g h=>by simpa using h⟩
  ·
   rw [if_neg hk]
   refine ⟨?_,fun g h=>?_⟩
   ·
    rw [List.map_cons]
    exact List.mem_cons_of_mem _ i1
   ·
    rw [List.map_cons] at h⊢
    rcases List.mem_cons.mp h with e|e
    ·exact List.mem_cons.mpr (.inl e)
    ·exact List.mem_cons_of_mem _ (i2 g e)
theorem wd (f:Str) (v:V): ∀fs:List (Str×V),(bD f v fs).length≤fs.length+1
 | []=>by simp [bD]
 |(k,x)::r=>by
  have ih:=wd f v r
  rw [show bD f v ((k,x)::r)=(if k=f then (k,v)::r else (k,x)::bD f v r) from rfl]
  by_cases hk:k=f
  ·rw [if_pos hk,List.length_cons,List.length_cons];omega
  ·rw [if_neg hk,List.length_cons,List.length_cons];omega
theorem xF.some_of {v:V} {o:Option Value} (r:xF (some v) o): ∃u,o=some u∧RelV v u:=by
 cases o with
 |none=>exact (show False from r).elim
 |some u=>exact ⟨u,rfl,r⟩
theorem xF.none_of {o:Option Value} (r:xF none o):o=none:=by
 cases o with
 |none=>rfl
 |some u=>exact (show False from r).elim
theorem Ax {v:V} {u:Value} (r:RelV v u):PySem.W.handedIn u=true:=by
 cases v with
 |non=>cases (show u=Value.none from r);rfl
 |bl b=>cases (show u=Value.bool b from r);rfl
 |int i=>obtain ⟨t,e⟩:=(show∃t,u=Value.int i t from r);cases e;rfl
 |str x=>obtain ⟨t,e⟩:=(show∃t,u=Value.str x t from r);cases e;rfl
 |byt b=>obtain ⟨t,e⟩:=(show∃t,u=Value.bytes b t from r);cases e;rfl
 |flt b=>obtain ⟨t,e⟩:=(show∃t,u=Value.float b t from r);cases e;rfl
 |ref a=>cases (show u=Value.ref a from r);rfl
 |ty n=>cases (show u=Value.type n from r);rfl
section
variable {P:Program} {w:World} {H H':Hp} {h h':Heap} {a C dx:Addr} {fs fs':List (Str×V)}
theorem xP (hok:xG P w H h) (e:H a=some (.ins C dx fs)): ∃mA,Er h a dx C mA∧(∀f,xF (fs.lookup f) (mA f))∧PySem.Within mA (fs.map (·.1))∧fs.length≤1000∧H dx=some (.own a):=by
 obtain ⟨d,z,ne,ob,mA,n,r,q⟩:=(show bW P w H h a (.ins C dx fs) from hok a _ e)
 exact ⟨mA,⟨ob,n,ne⟩,r,q,z,d⟩
end
structure Pb (K:PySem.W.Frag) (C:Addr):Prop where
 pg:PySem.W.plainGet K C Str.empty=true
 hd:PySem.W.hasDictIn K C=true
 po:PySem.W.plainOver K C=true
 sa:PySem.W.findIn K (.ref C) "__setattr__" = some (some (.builtin "object.__setattr__"))
theorem Pb.get {K:PySem.W.Frag} {C:Addr} (c:Pb K C) (f:Str):PySem.W.plainGet K C f=true:=c.pg
def a6 (K:PySem.W.Frag) (C:Addr) (f:Str):Prop:=PySem.W.findIn K (.ref C) f=some none
theorem a6.taker {K:PySem.W.Frag} {C:Addr} {f:Str} (n:a6 K C f):PySem.W.takerIn K C f=some none:=by
 unfold PySem.W.takerIn
 rw [show PySem.W.findIn K (.ref C) f=some none from n]
 rfl
structure Meth (K:PySem.W.Frag) (C:Addr) (m:Str) (f:Addr):Prop where
 at_:PySem.W.findIn K (.ref C) m=some (some (.ref f))
 fn:PySem.W.isFn K (.ref f)=true
 kp:PySem.W.keepIn K (.ref f)=true
section
variable {X:Cx} {pins:List (Addr×Obj)} {σ:St} {H:Hp} {s:Shared} {a C dx:Addr} {fs:List (Str×V)} {f:Str} {v:V} {A:Around} {E:Value→Shared→Prop}
theorem D6 {b:Bool} {Q:Value→Shared→Prop} (I:Inv X pins σ H s) (e:H a=some (.ins C dx fs)) (c:Pb X.K C) (n:a6 X.K C f) (l:fs.lookup f=some v)
  (h: ∀u s',Inv X pins σ H s'→RelV v u→Q u s'):wpAny (model X.prog X.w) A (getAttr (.ref a) f b) Q E s:=by
 obtain ⟨mA,O,r,_,_,_⟩:=xP I.hok e
 obtain ⟨u,hu,ru⟩:=xF.some_of (v:=v) (o:=mA f) (by rw [←l];exact r f)
 exact get_map I.l_ O (c.get f) c.hd n hu (Ax ru) (h u _ (I.tok _) ru)
theorem r6 {m:Str} {g:Addr} {pl:Sem Bool} {Q:Value×List Value→Shared→Prop} (I:Inv X pins σ H s) (e:H a=some (.ins C dx fs)) (c:Pb X.K C) (k:Meth X.K C m g) (l:fs.lookup m=none)
  (h:Q (.ref g,[.ref a]) s):wpAny (model X.prog X.w) A (getMethod (.ref a) m pl) Q E s:=by
 obtain ⟨mA,O,r,_,_,_⟩:=xP I.hok e
 have hn:mA m=none:=xF.none_of (by rw [←l];exact r m)
 exact Jn I.l_ O (c.get m) k.at_ k.fn hn h
theorem Dr {y:V} {u:Value} {Q:Unit→Shared→Prop} (I:Inv X pins σ H s) (e:H a=some (.ins C dx fs)) (c:Pb X.K C) (n:a6 X.K C f) (hl:fs.length<1000) (ry:RelV y u)
  (h: ∀s',Inv X pins σ (upd H a (.ins C dx (bD f y fs))) s'→Q () s'):wpAny (model X.prog X.w) A (setAttr (.ref a) f u) Q E s:=by
 obtain ⟨mA,O,r,wi,_,ho⟩:=xP I.hok e
 have hz:(fs.map (·.1)).length≤sizeLine:=by rw [List.length_map,sizeLine_eq];omega
 refine J5 I.l_ O c.sa c.po n.taker c.hd wi hz fun h' O' sb=>h _ ?_
 have hd: ∃o,h'.get? dx=some o:=let ⟨o,_,_,e',_⟩:=O'.ns;⟨o,e'⟩
 refine I.write (x:=a) (e:=dx) (by rw [e];exact True.intro) (.inr ho) (fun b q hb z=>(sb.2 b hb).trans z) hd ?_
 refine ⟨by rw [ak O.ne];exact ho,?_,O.ne,O'.obj,_,O'.ns,fun g=>?_,fun g hg=>?_⟩
 ·have:=wd f y fs;omega
 ·
  show xF ((bD f y fs).lookup g) (if g=f then some u else mA g)
  rw [wc]
  by_cases q:g=f
  ·rw [if_pos q,if_pos q];exact ry
  ·rw [if_neg q,if_neg q];exact r g
 ·
  by_cases q:g=f
  ·rw [q];exact (uY f y fs).1
  ·
   refine (uY f y fs).2 g (wi g fun z=>hg ?_)
   show (if g=f then some u else mA g)=none
   rw [if_neg q];exact z
theorem Inv.made (I:Inv X pins σ H s):Inv X pins σ (upd (upd H s.heap.objs.size (.own (s.heap.objs.size+1))) (s.heap.objs.size+1) (.ins C s.heap.objs.size []))
  {s with heap:=(s.heap.push PySem.W.emptyDict).push (PySem.W.instObj C s.heap.objs.size)}:=by
 have e1:(s.heap.push PySem.W.emptyDict).get? s.heap.objs.size=some PySem.W.emptyDict:=Heap.get?_push_size s.heap rfl
 have e2:((s.heap.push PySem.W.emptyDict).push (PySem.W.instObj C s.heap.objs.size)).get? (s.heap.objs.size+1)=some (PySem.W.instObj C s.heap.objs.size):=by
  have:=Heap.get?_push_size (s.heap.push PySem.W.emptyDict) (o:=PySem.W.instObj C s.heap.objs.size) rfl
  rwa [Heap.size_push] at this
 have e3:(s.heap.push PySem.W.emptyDict).Ns s.heap.objs.size (fun _=>none):=⟨PySem.W.emptyDict,#[],_,e1,rfl,(fun e he=>absurd he (by simp)),fun _=>rfl⟩
 have I1:=I.laid (a:=s.heap.objs.size) (o:= .own (s.heap.objs.size+1)) (h':=s.heap.push PySem.W.emptyDict) (t':=s.toks) (fun b u q=>Heap.get?_push_of_some _ q) (Nat.le_refl _) ⟨_,e1⟩
 refine I1.laid (a:=s.heap.objs.size+1) (o:= .ins C s.heap.objs.size []) (t':=s.toks) (fun b u q=>Heap.get?_push_of_some _ q) (Nat.le_of_eq (Heap.size_push _ _)) ?_
 have ne:s.heap.objs.size≠s.heap.objs.size+1:=Nat.ne_of_lt (Nat.lt_succ_self _)
 refine ⟨by rw [ak ne,aa],Nat.zero_le _,ne,e2,fun _=>none,(Heap.Ns1.of_empty e3).at fun o q=>Heap.get?_push_of_some _ q,fun _=>True.intro,fun y hy=>absurd rfl hy⟩
theorem Fh {prog:Program} {w:World} {env:Env} {e:Expr} {f:Str} {pos:Pos} {s:Shared} {Q:Value→Shared→Prop} (hb:attributeBase e f env (eval e env)=eval e env)
  (h:wpAny (model prog w) A (eval e env) (fun o s₁=>wpAny (model prog w) A (getAttr o f true) Q E s₁) E s):wpAny (model prog w) A (eval (.Attribute e f pos) env) Q E s:=
 Attribute_any_ h (by rw [arm_eval_Attribute,hb])
end
section
variable {X:Cx} {o e value:Expr} {f:Str} {pos pos' tpos:Pos} {ta tv:TE}
end
section
variable {X:Cx} {pins:List (Addr×Obj)} {σ:St} {H:Hp} {s:Shared} {A:Around} {E:Value→Shared→Prop} {Q:Value→Shared→Prop} {c:Value} {b:Bool}
inductive q5 (K:PySem.W.Frag) (H:Hp):V→Value→Prop where
 |non:q5 K H .non (.type "NoneType")
 |bl (x:Bool):q5 K H (.bl x) (.type "bool")
 |int (i:Int):q5 K H (.int i) (.type "int")
 |str (x:Str):q5 K H (.str x) (.type "str")
 |flt (x:UInt64):q5 K H (.flt x) (.type "float")
 |lst {a:Addr} {xs:List V} (e:H a=some (.lst xs)):q5 K H (.ref a) (.type "list")
 |frz {a:Addr} {o:Obj} {xs:List V} (e:H a=some (.frz o (.lst xs))):q5 K H (.ref a) (.type "list")
 |tup {a:Addr} {xs:List V} (e:H a=some (.tup xs)):q5 K H (.ref a) (.type "tuple")
 |dK {a:Addr} {kvs:List (Key×V)} (e:H a=some (.dK kvs)):q5 K H (.ref a) (.type "dict")
 |dT {a:Addr} {kvs:List (List Key×V)} (e:H a=some (.dT kvs)):q5 K H (.ref a) (.type "dict")
 |
   ins {a C dx:Addr} {fs:List (Str×V)} (e:H a=some (.ins C dx fs)) (cl:Pb K C) (ha:PySem.W.findIn K (.ref C) "__class__" = some (some (.builtin "object.__class__")))
   (hn:PySem.W.specialIn K (.builtin "object.__class__") "__get__" = some (some (.builtin "getset_descriptor.__get__"))) (htk:PySem.W.takesIn K (.builtin "object.__class__")=some true)
   (hm:PySem.W.mroIn K C (.type "object")=some true):q5 K H (.ref a) (.ref C)
theorem Gu {x:V} {u t:Value} (I:Inv X pins σ H s) (rx:RelV x u) (ty:q5 X.K H x t) (e:PySem.W.kitOne X.K t c=some b) (h: ∀tk,Q (.bool b) {s with toks:=tk}):
  wpAny (model X.prog X.w) A (call (.builtin "isinstance") [u,c]) Q E s:=by
 cases ty with
 |non=>cases (show u=Value.none from rx);exact PySem.W.kia_one PySem.W.kitx_none I.l_ True.intro e (fun z=>nomatch z) h
 |bl y=>cases (show u=Value.bool y from rx);exact PySem.W.kia_one PySem.W.kitx_bool I.l_ True.intro e (fun z=>nomatch z) h
 |int i=>obtain ⟨t,q⟩:=(show∃t,u=Value.int i t from rx);cases q;exact PySem.W.kia_one PySem.W.kitx_int I.l_ True.intro e (fun z=>nomatch z) h
 |str y=>obtain ⟨t,q⟩:=(show∃t,u=Value.str y t from rx);cases q;exact PySem.W.kia_one PySem.W.kitx_str I.l_ True.intro e (fun z=>nomatch z) h
 |flt y=>obtain ⟨t,q⟩:=(show∃t,u=Value.float y t from rx);cases q;exact PySem.W.kia_one PySem.W.kitx_float I.l_ True.intro e (fun z=>nomatch z) h
 | @lst a xs ea=>
  cases (show u=Value.ref a from rx)
  obtain ⟨_,_,n,_,h1⟩:=(show bW X.prog X.w H s.heap a (.lst xs) from I.hok a _ ea)
  exact PySem.W.kia_one PySem.W.kitx_list I.l_ ⟨_,h1,rfl⟩ e (fun z=>nomatch z) h
 | @frz a ob xs ea=>
  cases (show u=Value.ref a from rx)
  obtain ⟨_,_,_,n,_,h1⟩:=(show bW X.prog X.w H s.heap a (.frz ob (.lst xs)) from I.hok a _ ea)
  exact PySem.W.kia_one PySem.W.kitx_list I.l_ ⟨_,h1,rfl⟩ e (fun z=>nomatch z) h
 | @tup a xs ea=>
  cases (show u=Value.ref a from rx)
  obtain ⟨_,_,_,p⟩:=(show bW X.prog X.w H s.heap a (.tup xs) from I.hok a _ ea)
  obtain ⟨o,h1,h2,_⟩:=p
  exact PySem.W.kia_one PySem.W.kitx_tuple I.l_ ⟨o,h1,h2⟩ e (fun z=>nomatch z) h
 | @dK a kvs ea=>
  cases (show u=Value.ref a from rx)
  obtain ⟨_,_,vs,_,p⟩:=(show bW X.prog X.w H s.heap a (.dK kvs) from I.hok a _ ea)
  obtain ⟨o,es,ep,h1,h2,_⟩:=p
  exact PySem.W.kia_one PySem.W.kitx_dict I.l_ ⟨o,h1,h2.1⟩ e (fun z=>nomatch z) h
 | @dT a kvs ea=>
  cases (show u=Value.ref a from rx)
  obtain ⟨_,_,xs,_,o,es,ep,h1,h2,_⟩:=(show bW X.prog X.w H s.heap a (.dT kvs) from I.hok a _ ea)
  exact PySem.W.kia_one PySem.W.kitx_dict I.l_ ⟨o,h1,h2.1⟩ e (fun z=>nomatch z) h
 | @ins a C dx fs ea cl ha hn htk hm=>
  cases (show u=Value.ref a from rx)
  obtain ⟨mA,O,_⟩:=xP I.hok ea
  obtain ⟨od,J,_⟩:=O.look
  exact PySem.W.kia_one (PySem.W.kitx_own (cl.get _) cl.hd ha hn htk hm) I.l_ J e (fun z=>nomatch z) h
end
structure cz (k:Nat) (A:Around):Prop where
 hd:A.handled=none
 dp:A.depth+3*k+5<recursionLimit
 un:A.units+16*k+200<cLine
theorem cz.mono {j k:Nat} {A:Around} (r:cz k A) (h:j≤k):cz j A:=⟨r.hd,by have:=r.dp;omega,by have:=r.un;omega⟩
theorem cz.deeper {k:Nat} {A:Around} (r:cz (k+1) A) (env:Env):cz k (A.deeper env):=
 ⟨r.hd,by have:=r.dp;show A.depth+1+3*k+5<_;omega,by have:=r.un;show A.units+3+16*k+200<_;omega⟩
theorem DZ {A:Around} {C:Addr} {us:List Value} {kw:List (Str×Value)}:(A.under (.builtin "type.__call__" ⟨.ref C::us,kw⟩)).depth=A.depth+1:=by
 first|rfl|simp [Around.under,Code.weight,Code.isCreation,Code.isGuard,Code.isCaller,Code.frames,Code.isFrame,guardIds]
theorem DY {A:Around} {C:Addr} {us:List Value} {kw:List (Str×Value)}:(A.under (.builtin "type.__call__" ⟨.ref C::us,kw⟩)).units=A.units+1:=by
 first|rfl|simp [Around.under,Code.cUnits,Code.frames,Code.isFrame]
theorem cz.make {k:Nat} {A:Around} (r:cz (k+1) A) (C:Addr) (us:List Value) (kw:List (Str×Value)):cz k (A.under (.builtin "type.__call__" ⟨.ref C::us,kw⟩)):=
 ⟨r.hd,by have:=r.dp;rw [DZ];omega,by have:=r.un;rw [DY];omega⟩
theorem cz.depth {k:Nat} {A:Around} (r:cz k A):A.depth<recursionLimit:=by have:=r.dp;omega
theorem cz.units {k:Nat} {A:Around} (r:cz k A):A.units+64<cLine:=by have:=r.un;omega
def AO:TA:=fun _ H Q=>Q [] H
def sL (ta:TE) (tr:TA):TA:=fun σ H Q=>ta σ H fun x H1=>tr σ H1 fun xs H2=>Q (x::xs) H2
section
variable {X:Cx} {e:Expr} {es:List Expr} {te:TE} {t:TA} {pos:Pos}
theorem aq:PA X [] AO:=fun _ _ _ _ H Q I h=>Calls.spliced_nil ⟨[],H,I,.nil,h⟩
theorem ET (ha:PE X e te) (hr:PA X es t) (hs:starEach (e::es) X.env=(false,eval e X.env)::starEach es X.env:=by rfl):PA X (e::es) (sL te t):=by
 intro pos pins s σ H Q I h
 rw [hs]
 show wpAny _ _ (spliced ((false,eval e X.env)::backTo pos (starEach es X.env))) _ _ s
 refine Calls.spliced_cons (thn (ha pins s σ H _ I h) fun u s1 ⟨x,H1,I1,r1,q1⟩=>?_)
 exact thn (hr pos pins s1 σ H1 _ I1 q1) fun us s2 ⟨xs,H2,I2,r2,q2⟩=>⟨x::xs,H2,I2,.cons r1 r2,q2⟩
def Pk (t:TA):TE:=fun σ H Q=>t σ H fun xs H1=>xs.length≤sizeLine∧∀p,H1 p=none→Q (.ref p) (upd H1 p (.tup xs))
def Pq (t:TA):TE:=fun σ H Q=>t σ H fun xs H1=>xs.length≤sizeLine∧∀p,H1 p=none→Q (.ref p) (upd H1 p (.lst xs))
theorem cK {x1} (h:PA X es t):PE X (.Tuple es x1 pos) (Pk t):=by
 intro pins s σ H Q I hq
 refine wpAny_Tuple_spliced (thn (h pos pins s σ H _ I hq) fun us s1 ⟨xs,H1,I1,r,z,q⟩=>⟨by rw [←r.length];exact z,?_⟩)
 have hf:H1 s1.heap.objs.size=none:=I1.hok.fresh (Nat.le_refl _)
 refine ⟨.ref s1.heap.objs.size,upd H1 s1.heap.objs.size (.tup xs),I1.laid (t':=s1.toks) (fun b u e=>Heap.get?_push_of_some _ e) (Nat.le_refl _) ?_,rfl,q _ hf⟩
 exact ⟨z,us,r,⟨_,Heap.get?_push_size _ rfl,rfl,_,rfl⟩⟩
theorem cw (h:PA X es t):PE X (.List es pos) (Pq t):=by
 intro pins s σ H Q I hq
 refine wpAny_List_spliced (thn (h pos pins s σ H _ I hq) fun us s1 ⟨xs,H1,I1,r,z,q⟩=>⟨by rw [←r.length];exact z,?_⟩)
 have hf:H1 s1.heap.objs.size=none:=I1.hok.fresh (Nat.le_refl _)
 refine ⟨.ref s1.heap.objs.size,upd H1 s1.heap.objs.size (.lst xs),I1.laid (t':=s1.toks) (fun b u e=>Heap.get?_push_of_some _ e) (Nat.le_refl _) ?_,rfl,q _ hf⟩
 exact ⟨z,us,0,r,Heap.get?_push_size _ rfl⟩
end
noncomputable abbrev Sp:=List V→Hp→VK→XK→Prop
noncomputable abbrev pz:=List Env→Hp→Shared→XK→Value→Shared→Prop
structure Et (P:Program) (w:World) (K:PySem.W.Frag) (mg:Str→Option Value) (base:Heap) (A:Around) (outer:List Env) (s:Shared) (H:Hp):Prop where
 frames:A.frames=some outer
 mod:Mod K mg base
 bs: ∀b o,base.get? b=some o→s.heap.get? b=some o∧H b=none
 bsz:base.objs.size≤s.heap.objs.size
 funs:s.heap.FunFrames base outer
 frf: ∀b∈frs outer,H b=none
 hok:xG P w H s.heap
 bare:AllBare s.gens
def CE (outer:List Env) (P:Program) (w:World) (H:Hp) (s:Shared) (Q:VK) (u:Value) (s':Shared):Prop:=
 ∃v H',s'.os=s.os∧AllBare s'.gens∧Un (frs outer) [] H H' s.heap s'.heap∧xG P w H' s'.heap∧RelV v u∧Q v H'
def CR (CX:pz) (outer:List Env) (P:Program) (w:World) (H:Hp) (s:Shared) (Q:VK) (E:XK) (r:Result) (s':Shared):Prop:=
 match r with
 | .ok (.ret u)=>CE outer P w H s Q u s'
 | .ok _=>False
 | .error e=>CX outer H s E e s'
structure vT (P:Program) (w:World) (K:PySem.W.Frag) (mg:Str→Option Value) (base:Heap) (CX:pz) (k:Nat) (f:Addr) (fd:FuncData) (ps:List Str) (sp:Sp):Prop where
 len: ∀vs H Q E,sp vs H Q E→vs.length=ps.length
 run: ∀(A:Around) (outer:List Env) (s:Shared) (H:Hp) (args:Args) (us:List Value) (vs:List V) (Q:VK) (E:XK),cz k A→Et P w K mg base A outer s H→BindsTo s fd args (ps.zip us)→Vals vs us→sp vs H Q E→
  codeAny (model P w) A (.call (.ref f) args) (CR CX outer P w H s Q E) s
theorem Et.make {P:Program} {w:World} {K:PySem.W.Frag} {mg:Str→Option Value} {base:Heap} {A:Around} {outer:List Env} {s:Shared} {H:Hp} (e:Et P w K mg base A outer s H) (C:Addr) (us:List Value) (kw:List (Str×Value)):
  Et P w K mg base (A.under (.builtin "type.__call__" ⟨.ref C::us,kw⟩)) outer s H:=⟨by first|exact e.frames|(simpa [Around.under,Code.envs,Code.isFrame,pushEnvs] using e.frames),e.mod,e.bs,e.bsz,e.funs,e.frf,e.hok,e.bare⟩
section
variable {X:Cx} {pins:List (Addr×Obj)} {σ:St} {H:Hp} {s s':Shared}
theorem Inv.Ln (I:Inv X pins σ H s):Et X.prog X.w X.K X.mg X.base X.A X.stack s H:=
 ⟨I.ok.frames,I.ok.mod,I.bs,Nat.le_trans I.ok.bsz I.sz,I.stack,I.sN,I.hok,I.bare⟩
theorem Inv.after {Q:VK} {u:Value} (I:Inv X pins σ H s) (h:CE X.stack X.prog X.w H s Q u s'):EP X pins σ Q u s':=by
 obtain ⟨v,H',os,bare,un,hok,r,q⟩:=h
 obtain ⟨hh,g,d,t,os'⟩:=s'
 obtain rfl:os'=s.os:=os
 exact ⟨v,H',I.call (h':=hh) (g':=g) (d':=d) (t':=t) (ch:=[]) un hok bare (fun b z=>absurd z (by simp)),r,q⟩
end
def Cj (sp:Sp) (dvs:List V) (E:XK) (t:TA):TE:=fun σ H Q=>t σ H fun vs H1=>sp (vs++dvs) H1 Q E
def Ey (C:Addr) (sp:Sp) (dvs:List V) (E:XK) (t:TA):TE:=fun σ H Q=>t σ H fun vs H1=> ∀x dx,H1 x=none→H1 dx=none→dx≠x→
 sp (.ref x::(vs++dvs)) (upd (upd H1 dx (.own x)) x (.ins C dx [])) (fun v H2=>v = .non∧Q (.ref x) H2) E
def Binds (K:PySem.W.Frag) (fd:FuncData) (ps:List Str) (ds:List Value):Prop:=
 ∀(s:Shared) (us:List Value),K.In s.heap→(us++ds).length=ps.length→BindsTo s fd ⟨us,[]⟩ (ps.zip (us++ds))
theorem Binds.all {K:PySem.W.Frag} {fd:FuncData} {ps:List Str} (h: ∀us:List Value,us.length=ps.length→bindArgs fd ⟨us,[]⟩=pure (ps.zip us)):Binds K fd ps []:=fun s us _ hl=>by
 rw [List.append_nil] at hl⊢
 exact .of_eq (h us hl)
def Passes (CX:pz) (X:Cx) (E:XK):Prop:= ∀(pins:List (Addr×Obj)) (σ:St) (H:Hp) (s:Shared) (e:Value) (s':Shared),Inv X pins σ H s→CX X.stack H s E e s'→X.xe e s'
section
variable {X:Cx} {CX:pz} {k:Nat} {f C:Addr} {fd:FuncData} {ps:List Str} {sp:Sp} {dvs:List V} {ds:List Value} {E:XK} {x m:Str} {p pos apos:Pos} {e o:Expr} {es:List Expr} {ta:TE} {t:TA}
theorem A9 {pins:List (Addr×Obj)} {σ:St} {H:Hp} {s:Shared} {Q:VK} {us:List Value} {vs:List V} (F:vT X.prog X.w X.K X.mg X.base CX k f fd ps sp) (hr:cz k X.A) (hb:Binds X.K fd ps ds) (hd:Vals dvs ds) (hx:Passes CX X E)
  (I:Inv X pins σ H s) (r:Vals vs us) (h:sp (vs++dvs) H Q E):wpAny (model X.prog X.w) X.A (call (.ref f) us) (EP X pins σ Q) X.xe s:=by
 have r2:Vals (vs++dvs) (us++ds):=r.append hd
 have hl:(us++ds).length=ps.length:=by rw [←r2.length];exact F.len _ _ _ _ h
 refine wpAny_call (codeAny_mono (F.run X.A X.stack s H ⟨us,[]⟩ (us++ds) (vs++dvs) Q E hr I.Ln (hb s us I.l_ hl) r2 h) fun r s' hq=>?_)
 cases r with
 |error e=>exact hx pins σ H s e s' I hq
 |ok fl=>
  cases fl with
  |ret u=>exact I.after hq
  |next=>exact False.elim hq
  |brk=>exact False.elim hq
  |cont=>exact False.elim hq
theorem ER (F:vT X.prog X.w X.K X.mg X.base CX k f fd ps sp) (hr:cz k X.A) (hg:Gl X x) (hm:X.mg x=some (.ref f)) (hk:PySem.W.keepIn X.K (.ref f)=true) (hb:Binds X.K fd ps ds) (hd:Vals dvs ds) (hx:Passes CX X E)
  (ha:PA X (e::es) t) (hdb:(x == ("__debug__" : Str))=false:=by decide) (he:starEach (e::es) X.env=(false,eval e X.env)::starEach es X.env:=by rfl) (hpl:(backTo pos (starEach es X.env)).any (·.1)=false:=by rfl):
  PE X (.Call (.Name x p) (e::es) [] pos) (Cj sp dvs E t):=by
 intro pins s σ H Q I h
 refine wpAny_Call_Name_kw (lq I hg hm ?_ hdb)
 refine PySem.W.callWith_K (h₀:=X.base) I.ok.mod.kin hk (thn (ha pos pins s σ H _ I h) fun us s1 ⟨vs,H1,I1,r,q⟩=>⟨I1.l_,?_⟩) he hpl
 exact A9 F hr hb hd hx I1 r q
structure Mk (K:PySem.W.Frag) (C f:Addr):Prop where
 makes:PySem.W.makesIn K C=true
 init:PySem.W.findIn K (.ref C) "__init__" = some (some (.ref f))
 fn:PySem.W.isFn K (.ref f)=true
 kp:PySem.W.keepIn K (.ref C)=true
theorem Ha {pins:List (Addr×Obj)} {σ:St} {H:Hp} {s:Shared} {Q:VK} {us:List Value} {vs:List V} (M:Mk X.K C f) (F:vT X.prog X.w X.K X.mg X.base CX k f fd ps sp) (hr:cz (k+1) X.A) (hb:Binds X.K fd ps ds) (hd:Vals dvs ds)
  (hx:Passes CX X E) (I:Inv X pins σ H s) (r:Vals vs us)
  (h: ∀x dx,H x=none→H dx=none→dx≠x→sp (.ref x::(vs++dvs)) (upd (upd H dx (.own x)) x (.ins C dx [])) (fun v H2=>v = .non∧Q (.ref x) H2) E):
  wpAny (model X.prog X.w) X.A (call (.ref C) us) (EP X pins σ Q) X.xe s:=by
 have hq:=h (s.heap.objs.size+1) s.heap.objs.size (I.hok.fresh (Nat.le_succ _)) (I.hok.fresh (Nat.le_refl _)) (Nat.ne_of_lt (Nat.lt_succ_self _))
 have I2:=Inv.made (C:=C) I
 have r2:Vals (V.ref (s.heap.objs.size+1)::(vs++dvs)) (Value.ref (s.heap.objs.size+1)::(us++ds)):= .cons rfl (r.append hd)
 have hl:(Value.ref (s.heap.objs.size+1)::us++ds).length=ps.length:=by
  have e:=r2.length
  rw [F.len _ _ _ _ hq] at e
  exact e.symm
 refine wpAny_call (CD (f:=f) I.l_ M.makes M.init (beq_iff_eq.mp M.fn) (codeAny_mono (F.run _ X.stack _ _ ⟨Value.ref (s.heap.objs.size+1)::us,[]⟩ (Value.ref (s.heap.objs.size+1)::(us++ds)) _ _ E (hr.make C us [])
  (I2.Ln.make C us []) (hb _ (Value.ref (s.heap.objs.size+1)::us) I2.l_ hl) r2 hq) fun r s' hq'=>?_))
 cases r with
 |error e=>exact hx pins σ _ _ e s' I2 hq'
 |ok fl=>
  cases fl with
  |ret u=>
   obtain ⟨v,H',I3,rv,ev,q3⟩:=I2.after hq'
   subst ev
   exact ⟨rv,⟨V.ref (s.heap.objs.size+1),H',I3,rfl,q3⟩⟩
  |next=>exact False.elim hq'
  |brk=>exact False.elim hq'
  |cont=>exact False.elim hq'
theorem EM (M:Mk X.K C f) (F:vT X.prog X.w X.K X.mg X.base CX k f fd ps sp) (hr:cz (k+1) X.A) (hg:Gl X x) (hm:X.mg x=some (.ref C)) (hb:Binds X.K fd ps ds) (hd:Vals dvs ds) (hx:Passes CX X E)
  (ha:PA X (e::es) t) (hdb:(x == ("__debug__" : Str))=false:=by decide) (he:starEach (e::es) X.env=(false,eval e X.env)::starEach es X.env:=by rfl) (hpl:(backTo pos (starEach es X.env)).any (·.1)=false:=by rfl):
  PE X (.Call (.Name x p) (e::es) [] pos) (Ey C sp dvs E t):=by
 intro pins s σ H Q I h
 refine wpAny_Call_Name_kw (lq I hg hm ?_ hdb)
 refine PySem.W.callWith_K (h₀:=X.base) I.ok.mod.kin M.kp (thn (ha pos pins s σ H _ I h) fun us s1 ⟨vs,H1,I1,r,q⟩=>⟨I1.l_,?_⟩) he hpl
 exact Ha M F hr hb hd hx I1 r q
end
def PK (X:Cx) (kws:List Keyword) (t:TA):Prop:=
 ∀(pos:Pos) (pins:List (Addr×Obj)) (s:Shared) (σ:St) (H:Hp) (Q:List V→Hp→Prop),Inv X pins σ H s→t σ H Q→wpAny (model X.prog X.w) X.A (evalAll ((backToKw pos (keywordEach kws X.env)).map (·.2))) (AP X pins σ Q) X.xe s
section
variable {X:Cx} {CX:pz} {k:Nat} {f C:Addr} {fd:FuncData} {ps ks:List Str} {sp:Sp} {E:XK} {x m:Str} {p pos apos kpos:Pos} {e o:Expr} {es:List Expr} {kws:List Keyword} {te ta:TE} {t tk:TA} {nm:Option Str}
theorem P7:PK X [] AO:=fun _ _ _ _ H Q I h=>wpAny_evalAll_nil ⟨[],H,I,.nil,h⟩
theorem KJ (ha:PE X e te) (hr:PK X kws t):PK X (⟨nm,e,kpos⟩::kws) (sL te t):=by
 intro pos pins s σ H Q I h
 show wpAny _ _ (evalAll ((do let v←eval e X.env;standAt pos;pure v)::(backToKw pos (keywordEach kws X.env)).map (·.2))) _ _ s
 refine wpAny_evalAll_cons (wpAny_bind (thn (ha pins s σ H _ I h) fun u s1 ⟨x,H1,I1,r1,q1⟩=>wpAny_bind (wpAny_standAt (wpAny_pure ?_))))
 exact thn (hr pos pins s1 σ H1 _ I1 q1) fun us s2 ⟨xs,H2,I2,r2,q2⟩=>⟨x::xs,H2,I2,.cons r1 r2,q2⟩
variable {g:List Value→List Value→List Value} {gV:List V→List V→List V}
end
structure aU (N P:List Str) (sc:Scope):Prop where
 kind:sc.kind = .function
 co:sc.isCoroutine=false
 gen:sc.isGenerator=false
 nd:N.Nodup
 pre:N.take P.length=P
 par: ∀x∈P,sc.names.lookup x=some .local∨sc.names.lookup x=some .cell
 nofree: ∀y∈sc.names,y.2≠ .free
theorem AE {kindOf:Str→Option NameKind} {x:Str}: ∀{binds:List (Str×Value)} {m:Str→Option Value},(∀v,(x,v) ∉ binds)→bindL kindOf binds m x=m x
 | [],_,_=>rfl
 |(n,v)::r,m,h=>by
  unfold bindL
  rw [AE fun w hw=>h w (List.mem_cons_of_mem _ hw)]
  split
  ·
   have:x≠n:=by rintro rfl;exact h v List.mem_cons_self
   simp [this]
  ·rfl
theorem AG {kindOf:Str→Option NameKind} {x:Str}: ∀{binds:List (Str×Value)} {m:Str→Option Value},(∀v,(x,v) ∉ binds)→bindC kindOf binds m x=m x
 | [],_,_=>rfl
 |(n,v)::r,m,h=>by
  unfold bindC
  rw [AG fun w hw=>h w (List.mem_cons_of_mem _ hw)]
  split
  ·rfl
  ·
   have:x≠n:=by rintro rfl;exact h v List.mem_cons_self
   simp [this]
theorem AF {kindOf:Str→Option NameKind} {x:Str} {v:Value}: ∀{P:List Str} {vs:List Value} {i:Nat} {m:Str→Option Value},P.Nodup→P[i]?=some x→vs[i]?=some v→kindOf x=some .local→
  bindL kindOf (P.zip vs) m x=some v
 | [],_,_,_,_,h,_,_=>by simp at h
 |_::_,[],_,_,_,_,h,_=>by simp at h
 |p::P,w::vs,0,m,nd,h1,h2,hk=>by
  simp at h1 h2;subst h1;subst h2
  show bindL kindOf ((p,w)::P.zip vs) m p=_
  unfold bindL
  rw [AE fun v hv=>(List.nodup_cons.mp nd).1 (List.of_mem_zip hv).1,if_pos hk]
  simp
 |p::P,w::vs,i+1,m,nd,h1,h2,hk=>by
  show bindL kindOf ((p,w)::P.zip vs) m x=_
  unfold bindL
  exact AF (i:=i) (List.nodup_cons.mp nd).2 (by simpa using h1) (by simpa using h2) hk
theorem AH {kindOf:Str→Option NameKind} {x:Str} {v:Value}: ∀{P:List Str} {vs:List Value} {i:Nat} {m:Str→Option Value},P.Nodup→P[i]?=some x→vs[i]?=some v→kindOf x≠some .local→
  bindC kindOf (P.zip vs) m x=some v
 | [],_,_,_,_,h,_,_=>by simp at h
 |_::_,[],_,_,_,_,h,_=>by simp at h
 |p::P,w::vs,0,m,nd,h1,h2,hk=>by
  simp at h1 h2;subst h1;subst h2
  show bindC kindOf ((p,w)::P.zip vs) m p=_
  unfold bindC
  rw [AG fun v hv=>(List.nodup_cons.mp nd).1 (List.of_mem_zip hv).1,if_neg hk]
  simp
 |p::P,w::vs,i+1,m,nd,h1,h2,hk=>by
  show bindC kindOf ((p,w)::P.zip vs) m x=_
  unfold bindC
  exact AH (i:=i) (List.nodup_cons.mp nd).2 (by simpa using h1) (by simpa using h2) hk
noncomputable def start (N:List Str) (vs:List V):St:=vs.map some++List.replicate (N.length - vs.length) none
noncomputable def vL (CX:pz) (P:Program) (w:World) (K:PySem.W.Frag) (mg:Str→Option Value) (base:Heap) (N:List Str) (qual:Str) (scope:Scope) (f:Addr) (cd:Value) (A:Around) (outer:List Env) (s:Shared) (H:Hp) (E:XK):Cx where
 prog:=P
 w:=w
 K:=K
 mg:=mg
 base:=base
 A:=A.deeper (envOfC qual scope s.heap.objs.size f cd)
 N:=N
 s₀:=s
 H₀:=H
 env:=envOfC qual scope s.heap.objs.size f cd
 outer:=outer
 stack:=envOfC qual scope s.heap.objs.size f cd::outer
 ex:=[]
 calm:=true
 fn:=fun _=>true
 pn:=[]
 xe:=fun e s'=>wpAny (model P w) (A.deeper (envOfC qual scope s.heap.objs.size f cd)) (leaving (envOfC qual scope s.heap.objs.size f cd) e) (fun _ s''=>CX outer H s E e s'') (fun e' s''=>CX outer H s E e' s'') s'
theorem CZ {sc:Scope} {n:Nat} {x:Str} (h:sc.names.lookup x=some .cell): ∃c,(cellsFrom n sc.names []).lookup x=some c:=by
 have q:=PySem.W.cellsFrom_some sc.names n [] (.inl h)
 exact Option.isSome_iff_exists.mp q
theorem Gx {CX:pz} {P:Program} {w:World} {K:PySem.W.Frag} {mg:Str→Option Value} {base:Heap} {N ps:List Str} {qual:Str} {scope:Scope} {f:Addr} {cd:Value} {A:Around} {outer:List Env} {s s1:Shared} {H:Hp} {E:XK} {us:List Value} {vs:List V}
  (S:aU N ps scope) (hd:A.handled=none) (e0:Et P w K mg base A outer s H) (hl:vs.length=ps.length) (r:Vals vs us)
  (x:InCallC s s.heap.objs.size (bindL (envOfC qual scope s.heap.objs.size f cd).kindOf (ps.zip us) fun _=>none) (cellsFrom (s.heap.objs.size+1) scope.names []) (bindC (envOfC qual scope s.heap.objs.size f cd).kindOf (ps.zip us) fun _=>none) s1):
  Inv (vL CX P w K mg base N qual scope f cd A outer s H E) [] (start N vs) H s1:=by
 have hpl:ps.length≤N.length:=by have:=congrArg List.length S.pre;rw [List.length_take] at this;omega
 obtain ⟨h1,tk,rfl,hk⟩:=x.done
 have noA: ∀b:Addr,b ∉ (vL CX P w K mg base N qual scope f cd A outer s H E).ex:=fun b z=>absurd (show b∈([]:List Addr) from z) (by simp)
 refine ⟨⟨e0.mod,S.kind,rfl,rfl,Nat.le_refl _,fun y z c h1 h2=>?_,fun y hy=>?_,fun y c _ h=>?_,fun _=>hd,Around.frames_deeper e0.frames,.inr ⟨rfl,rfl⟩,fun b z=>absurd z (noA b),e0.bs,e0.bsz,fun b _ _=>noA b,fun b z=>absurd z (noA b),e0.funs,e0.frf⟩,
  rfl,e0.bare,Un.kept hk,⟨_,x.toInCall.ns,fun i y v h1 h2 h3=>?_⟩,fun y c h=>⟨_,x.cell y c h⟩,e0.hok.fresh (Nat.le_refl _),fun y c h=>?_,fun p hp=>absurd (show p∈([]:List (Addr×Obj)) from hp) (by simp),e0.hok.kept hk,?_⟩
 ·exact name_of_addr x.apart (PySem.mem_of_lookup h1) (PySem.mem_of_lookup h2)
 ·
  have hy:scope.names.lookup y=some .cell∨scope.names.lookup y=some .free:=hy
  rcases hy with hy|hy
  ·exact CZ hy
  ·exact absurd rfl (S.nofree _ (PySem.mem_of_lookup hy))
 ·exact Nat.le_of_lt (x.above y c (PySem.mem_of_lookup h))
 ·have hi:i<vs.length:=by
   unfold start at h2
   by_cases hi:i<vs.length
   ·exact hi
   ·
    rw [List.getElem?_append_right (by simpa using hi)] at h2
    rw [List.getElem?_replicate] at h2
    split at h2<;>cases h2
  have ha:vs[i]?=some v:=by
   unfold start at h2
   rw [List.getElem?_append_left (by simpa using hi),List.getElem?_map] at h2
   cases e:vs[i]? with
   |none=>rw [e] at h2;cases h2
   |some a=>rw [e] at h2;cases h2;rfl
  obtain ⟨u,hu,rv⟩:=r.get ha
  have hp:ps[i]?=some y:=by
   rw [←S.pre,List.getElem?_take_of_lt (by omega)];exact h1
  have ndP:ps.Nodup:=by rw [←S.pre];exact S.nd.sublist (List.take_sublist _ _)
  refine ⟨u,rv,?_⟩
  rcases S.par y (List.mem_of_getElem? hp) with k|k
  ·exact .inl ⟨k,AF ndP hp hu k⟩
  ·
   obtain ⟨c,e⟩:=CZ (n:=s.heap.objs.size+1) k
   refine .inr ⟨.inl k,c,e,?_⟩
   have q:=x.cell y c e
   rw [AH ndP hp hu (by show scope.names.lookup y≠_;rw [k];decide)] at q
   exact q
 ·exact e0.hok.fresh (Nat.le_of_lt (x.above y c (PySem.mem_of_lookup h)))
 ·
  unfold start
  show _=N.length
  rw [List.length_append,List.length_map,List.length_replicate]
  omega
theorem E8 {CX:pz} {P:Program} {w:World} {K:PySem.W.Frag} {mg:Str→Option Value} {base:Heap} {k:Nat} {f:Addr} {name qual:Str} {params:Arguments} {body:List Stmt} {scope:Scope} {dV kV doc pm cdv ct oc:Value} {an od:Option Addr}
  {osl:Array (Option Value)} {N ps:List Str} {sp:Sp} (lk:K.lookup f=some ⟨oc,od,.func (PySem.W.fnOf name qual params body scope dV kV doc pm an cdv ct),osl⟩) (hcd:PySem.W.codeIn K cdv qual=true) (S:aU N ps scope)
  (len: ∀vs H Q E,sp vs H Q E→vs.length=ps.length)
  (
   hbody: ∀(A:Around) (outer:List Env) (s:Shared) (H:Hp) (vs:List V) (Q:VK) (E:XK),cz k (A.deeper (envOfC qual scope s.heap.objs.size f cdv))→sp vs H Q E→
   ∃t,y_ (vL CX P w K mg base N qual scope f cdv A outer s H E) body t∧t {nx:=fun _ H'=>Q .non H',rt:=Q} (start N vs) H):
  vT P w K mg base CX (k+1) f (PySem.W.fnOf name qual params body scope dV kV doc pm an cdv ct) ps sp:=by
 refine ⟨len,fun A outer s H args us vs Q E hr e0 hb r hsp=>?_⟩
 have hl:=len _ _ _ _ hsp
 have KX:K.In s.heap:=e0.mod.kin.keeps fun b o e=>(e0.bs b o e).1
 have lim:s.heap.NoLimit:=e0.mod.nolimit.keeps fun b o e=>(e0.bs b o e).1
 have hkind: ∀y∈ps.zip us,scope.names.lookup y.1=some .local∨(scope.names.lookup y.1=some .cell∧((cellsFrom (s.heap.objs.size+1) scope.names []).lookup y.1).isSome=true):=fun ⟨n,v⟩ hy=>by
  rcases S.par n (List.of_mem_zip hy).1 with q|q
  ·exact .inl q
  ·exact .inr ⟨q,PySem.W.cellsFrom_some _ _ _ (.inl q)⟩
 refine codeAny_call_function hr.depth (KX _ _ lk) rfl S.co S.gen rfl (PySem.W.codeRec_of KX hcd) (hb _ _ _ _ ?_)
 refine wpAny_newFunctionEnv_cells S.kind hkind fun env he s1 x=>?_
 subst he
 refine ⟨lim.keeps x.toInCall.keep,codeAny_func ?_⟩
 obtain ⟨t,ht,hq⟩:=hbody A outer s H vs Q E (hr.deeper _) hsp
 have I:Inv (vL CX P w K mg base N qual scope f cdv A outer s H E) [] (start N vs) H s1:=Gx S hr.hd e0 hl r x
 refine wpAny_mono (ht [] s1 (start N vs) H _ I hq) (fun fl s' hs=>?_) fun e s' hs=>hs
 have fin: ∀{σ':St} {H':Hp} {v:V} {u:Value},Inv (vL CX P w K mg base N qual scope f cdv A outer s H E) [] σ' H' s'→RelV v u→Q v H'→CE outer P w H s Q u s':=
  fun {σ' H' v u} J rv q=>⟨v,H',J.os,J.bare,J.base,J.hok,rv,q⟩
 cases fl with
 |ret u=>
  obtain ⟨v,σ',H',J,rv,q⟩:=hs
  exact fin J rv q
 |next=>
  obtain ⟨σ',H',J,q⟩:=hs
  exact fin (v:=V.non) (u:=Value.none) J rfl q
 |brk=>
  obtain ⟨_,_,_,q⟩:=hs
  exact False.elim q
 |cont=>
  obtain ⟨_,_,_,q⟩:=hs
  exact False.elim q
section
variable {X:Cx} {x:Str} {p pos:Pos} {e:Expr} {es:List Expr} {t:TA} {id T:String} {r:List V→Hp→VK→Prop}
def RO (r:List V→Hp→VK→Prop) (t:TA):TE:=fun σ H Q=>t σ H fun vs H1=>r vs H1 Q
theorem HV (hc:bQ X (.builtin id) r) (hg:Gl X x) (hm:X.mg x=none) (hv:bootBuiltins x=some (.builtin id)) (ha:PA X (e::es) t) (hn:x≠ "__name__" :=by decide) (hdb:(x == ("__debug__" : Str))=false:=by decide)
  (he:starEach (e::es) X.env=(false,eval e X.env)::starEach es X.env:=by rfl) (hpl:(backTo pos (starEach es X.env)).any (·.1)=false:=by rfl):PE X (.Call (.Name x p) (e::es) [] pos) (RO r t):=by
 intro pins s σ H Q I h
 refine wpAny_Call_Name_kw (uX I hg hm hv ?_ hn hdb)
 exact PyProof.Rows.callWith_builtin1 (thn (ha pos pins s σ H _ I h) fun us s1 ⟨vs,H1,I1,r1,q1⟩=>hc pins s1 σ H1 vs us Q I1 r1 q1) he hpl
theorem Gd (hc:bQ X (.type T) r) (hg:Gl X x) (hm:X.mg x=none) (hv:bootBuiltins x=some (.type T)) (ha:PA X (e::es) t) (hn:x≠ "__name__" :=by decide) (hdb:(x == ("__debug__" : Str))=false:=by decide)
  (he:starEach (e::es) X.env=(false,eval e X.env)::starEach es X.env:=by rfl) (hpl:(backTo pos (starEach es X.env)).any (·.1)=false:=by rfl):PE X (.Call (.Name x p) (e::es) [] pos) (RO r t):=by
 intro pins s σ H Q I h
 refine wpAny_Call_Name_kw (uX I hg hm hv ?_ hn hdb)
 exact PyProof.Rows.callWith_type1 (thn (ha pos pins s σ H _ I h) fun us s1 ⟨vs,H1,I1,r1,q1⟩=>hc pins s1 σ H1 vs us Q I1 r1 q1) he hpl
end
end L2
namespace HT
open PySem PyProof.Rows
section
open PySem.SeqAt
open PySem.AutoSeq1 (wpAny_loadPart')
open PySem.MeetsSeq PySem.MeetsSeq2 PySem.MeetsSeq3
end
section
variable {prog:Program} {w:World} {A:Around} {E:Value→Shared→Prop} {s:Shared}
theorem Lw {t b:Addr} {vs ws:List Value} {Q:Value→Shared→Prop} (ht:IsTup s.heap t vs.toArray) (hb:IsTup s.heap b ws.toArray) (hv:vs≠[])
  (h1:ws= []→Q (.ref t) s) (h2:ws≠[]→Q (.ref s.heap.objs.size) {s with heap:=s.heap.push {cls:= .type "tuple",data:= .seq (vs++ws).toArray}})
  (hsz:vs.length+ws.length≤sizeLine):wpAny (model prog w) A (binaryOp .Add (.ref t) (.ref b)) Q E s:=by
 obtain ⟨⟨cls,dd,data,sl⟩,ho,hc,n,hd⟩:=id ht
 obtain ⟨⟨cls2,dd2,data2,sl2⟩,ho2,hc2,n2,hd2⟩:=id hb
 simp only at hc hd hc2 hd2
 subst hc hd hc2 hd2
 have e:vs.toArray++ws.toArray=(vs++ws).toArray:=by simp
 by_cases hw:ws= []
 ·exact concat_meets ⟨_,ho,rfl⟩ ⟨_,ho2,rfl⟩ noFill_tuple_add seq_tuple_add PySem.F.slot_tuple_add PySem.F.entry_tuple_add (PySem.F.args_tuple_add_2 _ _)
   (tuple_addW1 t b vs.toArray ws.toArray n n2 dd dd2 sl sl2 (by simpa using hv) (by simp [hw])) ⟨ho,ho2,h1 hw⟩
 ·refine concat_meets ⟨_,ho,rfl⟩ ⟨_,ho2,rfl⟩ noFill_tuple_add seq_tuple_add PySem.F.slot_tuple_add PySem.F.entry_tuple_add (PySem.F.args_tuple_add_2 _ _)
   (tuple_addW2 t b vs.toArray ws.toArray n n2 dd dd2 sl sl2 (by simpa using hv) (by simpa using hw) (by rw [List.size_toArray,List.size_toArray];exact hsz)) ⟨ho,ho2,?_⟩
  rw [e]
  exact h2 hw
noncomputable def iC (n d:Nat):Option Int→Nat
 |none=>d
 |some v=>if v<0 then (v+(n:Int)).toNat else min v.toNat n
theorem ED (n d k:Nat):iC n d (some (k:Int))=min k n:=by
 show (if (k:Int)<0 then ((k:Int)+(n:Int)).toNat else min (k:Int).toNat n)=min k n
 rw [if_neg (by omega),Int.toNat_natCast]
theorem PC (n d:Nat) (hd:d≤n) (o:Option Int):iC n d o≤n:=by
 cases o with
 |none=>exact hd
 |some v=>
  show (if v<0 then (v+(n:Int)).toNat else min v.toNat n)≤n
  by_cases hv:v<0
  ·rw [if_pos hv];omega
  ·rw [if_neg hv];exact Nat.min_le_right _ _
theorem Ff (v:Int) (n d:Nat):(if v<0 then max (v+(n:Int)) 0 else min v (n:Int))=((iC n d (some v):Nat):Int):=by
 show (if v<0 then max (v+(n:Int)) 0 else min v (n:Int))=(((if v<0 then (v+(n:Int)).toNat else min v.toNat n):Nat):Int)
 by_cases hv:v<0
 ·simp only [if_pos hv];omega
 ·simp only [if_neg hv];omega
theorem Ep (lo hi:Option Int) (n:Nat):Builtin.Slice.sliceAdjust lo hi 1 (n:Int)=(((iC n 0 lo:Nat):Int),((iC n n hi:Nat):Int)):=by
 have h1: ¬((1:Int)<0):=by omega
 unfold Builtin.Slice.sliceAdjust
 simp only [h1,if_false]
 refine Prod.ext ?_ ?_
 ·
  cases lo with
  |none=>rfl
  |some v=>exact Ff v n 0
 ·
  cases hi with
  |none=>rfl
  |some v=>exact Ff v n n
theorem DO (i j:Nat):Builtin.Slice.slicePlaces (i:Int) (j:Int) 1=j - i:=by
 unfold Builtin.Slice.slicePlaces
 have h1:(1:Int) > 0:=by omega
 simp only [h1,if_true,Int.ediv_one]
 split<;>omega
theorem x6 {v:Value} {o:Option Int} {Q:Option Int→Shared→Prop} (p:IsPart v o) (h:Q o s):wpAny (model prog w) A (Builtin.Slice.slicePartIndex v) Q E s:=by
 cases p with
 |none=>exact slicePart_none h
 |int i t=>exact slicePart_int h
theorem uF {sl:Addr} {vl vu:Value} {lo hi:Option Int} {n:Nat} {Q:Int×Int×Nat→Shared→Prop} (hs:s.heap.IsSliceOf sl vl vu .none) (pl:IsPart vl lo) (pu:IsPart vu hi)
  (h:Q (((iC n 0 lo:Nat):Int),1,iC n n hi - iC n 0 lo) s):wpAny (model prog w) A (Builtin.Slice.sliceApplied (.ref sl) (pure (n:Int))) Q E s:=by
 obtain ⟨os,hos,hcs,hds⟩:=id hs
 unfold Builtin.Slice.sliceApplied Builtin.Slice.sliceFields
 refine wpAny_bind (wpAny_bind (wpAny_field hos hds (x:=vl) rfl (wpAny_bind (wpAny_field hos hds (x:=vu) rfl (wpAny_bind (wpAny_field hos hds (x:= .none) rfl (wpAny_pure ?_)))))))
 refine wpAny_bind (slicePart_none ?_)
 show wpAny _ _ (if ((1:Int) == 0)=true then _ else _) _ _ s
 rw [if_neg (by decide)]
 refine wpAny_bind (x6 pl (wpAny_bind (x6 pu (wpAny_bind (wpAny_pure ?_)))))
 show wpAny _ _ (match Builtin.Slice.sliceAdjust lo hi 1 (n:Int) with|(lo,hi)=>pure (lo,(1:Int),Builtin.Slice.slicePlaces lo hi 1)) _ _ s
 rw [Ep lo hi n]
 show wpAny _ _ (pure (((iC n 0 lo:Nat):Int),(1:Int),Builtin.Slice.slicePlaces ((iC n 0 lo:Nat):Int) ((iC n n hi:Nat):Int) 1)) _ _ s
 rw [DO]
 exact wpAny_pure h
theorem HM (xs:Array Value) (i k:Nat):((List.range k).filterMap fun (m:Nat)=>xs[((i:Int)+(m:Int)*1).toNat]?).toArray=((xs.toList.drop i).take k).toArray:=by
 have e:(fun (m:Nat)=>xs[((i:Int)+(m:Int)*1).toNat]?)=fun m=>xs[i+m]?:=by
  funext m
  have:((i:Int)+(m:Int)*1).toNat=i+m:=by omega
  rw [this]
 rw [e]
 have:=pick_run xs i k
 rw [List.filterMap_map] at this
 have e2:((fun x=>xs[x]?)∘fun x=>i+x)=fun m=>xs[i+m]?:=rfl
 rw [e2] at this
 rw [this]
theorem tD {t sl:Addr} {items:Array Value} {vl vu:Value} {lo hi:Option Int} {Q:Value→Shared→Prop} (ht:IsTup s.heap t items) (hs:s.heap.IsSliceOf sl vl vu .none) (pl:IsPart vl lo) (pu:IsPart vu hi)
  (hw: ¬(iC items.size 0 lo=0∧iC items.size items.size hi=items.size))
  (h:Q (.ref s.heap.objs.size) {s with heap:=s.heap.push {cls:= .type "tuple",data:= .seq ((items.toList.drop (iC items.size 0 lo)).take (iC items.size items.size hi - iC items.size 0 lo)).toArray}})
  (hsz:items.size≤sizeLine):wpAny (model prog w) A (getItem (.ref t) (.ref sl)) Q E s:=by
 have htake:sizeOk (.seq ((items.toList.drop (iC items.size 0 lo)).take (iC items.size items.size hi - iC items.size 0 lo)).toArray):=by
  show ((items.toList.drop (iC items.size 0 lo)).take (iC items.size items.size hi - iC items.size 0 lo)).toArray.size≤sizeLine
  rw [List.size_toArray,List.length_take,List.length_drop,Array.length_toList]
  omega
 have hj:iC items.size items.size hi≤items.size:=PC _ _ (Nat.le_refl _) hi
 obtain ⟨os,hos,hcs,hds⟩:=id hs
 have hTs:s.TypeIs (.ref sl) "slice" :=⟨os,hos,hcs⟩
 unfold getItem
 try with_reducible refine wpAny_holding ?_
 first|refine wpAny_bind (wpAny_pure ?_)|skip
 refine wpAny_bind (wpAny_sequenceKey ht.typeIs (by decide) ?_)
 refine wpAny_bind (wpAny_callSpecial?_slot (name:=Str.ofString "__getitem__") ht.typeIs PyProof.Rows.slot_tuple_getitem
  (wpAny_call_entry PyProof.Rows.slot_tuple_getitem ht.typeIs entry_tuple_getitem ?_ (args_tuple_getitem _ _)))
 show wpAny _ _ (Builtin.Tuple.tupleItemsOf (.ref t) >>= _) _ _ s
 refine wpAny_bind (tupleItemsOf_ ht ?_)
 refine wpAny_bind (wpAny_typeOf hTs ?_)
 rw [if_pos (by decide)]
 refine wpAny_bind (uF hs pl pu ?_)
 have hno: ¬((((iC items.size 0 lo:Nat):Int) == 0&&(1:Int) == 1&&(iC items.size items.size hi - iC items.size 0 lo) == items.size)=true):=by
  intro q
  rw [Bool.and_eq_true,Bool.and_eq_true] at q
  have q1:((iC items.size 0 lo:Nat):Int)=0:=eq_of_beq q.1.1
  have q2:iC items.size items.size hi - iC items.size 0 lo=items.size:=eq_of_beq q.2
  exact hw ⟨by omega,by omega⟩
 show wpAny _ _ (if (((iC items.size 0 lo:Nat):Int) == 0&&(1:Int) == 1&&(iC items.size items.size hi - iC items.size 0 lo) == items.size)=true then _ else _) _ _ s
 rw [if_neg hno,HM]
 first
  |exact wpAny_bind (m:=Builtin.Tuple.tupleExact _) (wpAny_newObj_type (wpAny_pure ⟨_,rfl,wpAny_pure h⟩) htake)
  |exact wpAny_bind (m:=Builtin.Tuple.tupleExact _) (wpAny_newObj_type (wpAny_bind (wpAny_pure (wpAny_pure ⟨_,rfl,wpAny_pure h⟩))) htake)
  |exact wpAny_bind (wpAny_bind (m:=Builtin.Tuple.tupleExact _) (wpAny_newObj_type (wpAny_pure (wpAny_pure ⟨_,rfl,wpAny_pure h⟩)) htake))
  |exact wpAny_bind (wpAny_bind (m:=Builtin.Tuple.tupleExact _) (wpAny_newObj_type (wpAny_pure ⟨_,rfl,wpAny_pure h⟩) htake))
end
end HT
namespace L2
open PySem PySem.Spec PyProof.Rows
noncomputable abbrev TO:=St→Hp→(Option Int→Hp→Prop)→Prop
def PO (X:Cx) (e:Option Expr) (t:TO):Prop:=
 ∀(pins:List (Addr×Obj)) (s:Shared) (σ:St) (H:Hp) (Q:Option Int→Hp→Prop),Inv X pins σ H s→t σ H Q→
  wpAny (model X.prog X.w) X.A (evalPart e X.env) (fun u s'=> ∃o H',Inv X pins σ H' s'∧IsPart u o∧Q o H') X.xe s
def J1:TO:=fun _ H Q=>Q none H
def LF (t:TE):TO:=fun σ H Q=>t σ H fun x H1=> ∃i,x = .int i∧Q (some i) H1
section
variable {X:Cx} {e:Expr} {te:TE} {lo hi:Option Expr} {tl th:TO} {pos p2:Pos}
theorem EI (h:PE X e te):PO X (some e) (LF te):=by
 intro pins s σ H Q I hw
 rw [evalPart_some]
 refine thn (h pins s σ H _ I hw) fun u s1 ⟨x,H1,I1,r1,q1⟩=>?_
 obtain ⟨i,rfl,q⟩:=q1
 obtain ⟨t,rfl⟩:=r1
 exact ⟨some i,H1,I1,.int i t,q⟩
def Fj (X:Cx) (r:V→Option Int→Option Int→Hp→VK→Prop):Prop:=
 ∀(pins:List (Addr×Obj)) (s:Shared) (σ:St) (H:Hp) (x:V) (v vl vu:Value) (lo hi:Option Int) (sl:Addr) (Q:VK),Inv X pins σ H s→RelV x v→s.heap.IsSliceOf sl vl vu .none→IsPart vl lo→IsPart vu hi→r x lo hi H Q→
  ∃T id,typeLookup (.type T) "__getitem__" = pure (some (.builtin id))∧s.TypeIs v T∧wpAny (model X.prog X.w) X.A (getItem v (.ref sl)) (EP X pins σ Q) X.xe s
theorem Fj.or {r r':V→Option Int→Option Int→Hp→VK→Prop} (h:Fj X r) (h':Fj X r'):Fj X (fun x lo hi H Q=>r x lo hi H Q∨r' x lo hi H Q):=by
 intro pins s σ H x v vl vu lo hi sl Q I rx hs pl pu q
 rcases q with q|q
 ·exact h pins s σ H x v vl vu lo hi sl Q I rx hs pl pu q
 ·exact h' pins s σ H x v vl vu lo hi sl Q I rx hs pl pu q
def tSl (r:V→Option Int→Option Int→Hp→VK→Prop) (te:TE) (tl th:TO):TE:=fun σ H Q=>te σ H fun x H1=>tl σ H1 fun l H2=>th σ H2 fun u H3=>r x l u H3 Q
theorem HQ {r:V→Option Int→Option Int→Hp→VK→Prop} (hr:Fj X r) (he:PE X e te) (hl:PO X lo tl) (hu:PO X hi th):PE X (.Subscript e (.Slice lo hi none p2) pos) (tSl r te tl th):=by
 intro pins s σ H Q I h
 refine Subscript_ (thn (he pins s σ H _ I h) fun v s1 ⟨x,H1,I1,r1,q1⟩=>?_)
 refine wpAny_Slice (thn (hl pins s1 σ H1 _ I1 q1) fun vl s2 ⟨l,H2,I2,pl,q2⟩=>thn (hu pins s2 σ H2 _ I2 q2) fun vu s3 ⟨u,H3,I3,pu,q3⟩=>?_)
 rw [evalPart_none]
 refine wpAny_pure ?_
 have I4:Inv X pins σ H3 {s3 with heap:=s3.heap.push {cls:= .type "slice",data:= .fields #[vl,vu,.none]}}:=I3.kept (t':=s3.toks) fun b ob q=>Heap.get?_push_of_some _ q
 obtain ⟨T,id,hT,ht,hg⟩:=hr pins {s3 with heap:=s3.heap.push {cls:= .type "slice",data:= .fields #[vl,vu,.none]}} σ H3 x v vl vu l u s3.heap.objs.size Q I4 r1 (Heap.IsSliceOf.new ..) pl pu q3
 show wpAny (model X.prog X.w) X.A (subscriptTail e (.Slice lo hi none p2) v (.ref s3.heap.objs.size)) (EP X pins σ Q) X.xe {s3 with heap:=s3.heap.push {cls:= .type "slice",data:= .fields #[vl,vu,.none]}}
 exact tail_any (ops:=[.ref s3.heap.objs.size,v]) ht hT hg (by with_unfolding_all rfl)
noncomputable def yY (xs:List V) (lo hi:Option Int):List V:=(xs.drop (HT.iC xs.length 0 lo)).take (HT.iC xs.length xs.length hi - HT.iC xs.length 0 lo)
theorem wj (xs:List V) (lo hi:Option Int):(yY xs lo hi).length≤xs.length:=by
 unfold yY
 rw [List.length_take,List.length_drop]
 omega
def Sa (K:PySem.W.Frag):V→Option Int→Option Int→Hp→VK→Prop:=fun x lo hi H Q=> ∃a xs,x = .ref a∧iD K H a xs∧
 ¬(HT.iC xs.length 0 lo=0∧HT.iC xs.length xs.length hi=xs.length)∧∀p,H p=none→Q (.ref p) (upd H p (.tup (yY xs lo hi)))
theorem Pz:Fj X (Sa X.K):=by
 intro pins s σ H x v vl vu lo hi sl Q I rx hs pl pu h
 obtain ⟨a,xs,rfl,hx,hw,q⟩:=h
 cases rx
 obtain ⟨its,r,ht,hz⟩:=I.tuple hx
 have hlen:its.toArray.size=xs.length:=by rw [List.size_toArray];exact r.length.symm
 refine ⟨"tuple",_,PyProof.Rows.slot_tuple_getitem.lookup,ht.typeIs,?_⟩
 refine HT.tD ht hs pl pu (by rw [hlen];exact hw) ?_ (by rw [hlen];exact hz)
 rw [hlen]
 refine ⟨.ref s.heap.objs.size,_,I.laid (t':=s.toks) (o:= .tup (yY xs lo hi)) (fun b ob q=>Heap.get?_push_of_some _ q) (Nat.le_refl _) ?_,rfl,q _ (I.hok.fresh (Nat.le_refl _))⟩
 exact ⟨Nat.le_trans (wj xs lo hi) hz,_,(r.drop (HT.iC xs.length 0 lo)).take (HT.iC xs.length xs.length hi - HT.iC xs.length 0 lo),IsTup.new _ _⟩
def LP (K:PySem.W.Frag):R2:=fun x y H Q=> ∃a b xs ys,x = .ref a∧y = .ref b∧iD K H a xs∧iD K H b ys∧xs≠[]∧xs.length+ys.length≤sizeLine∧
 (ys= []→Q (.ref a) H)∧(ys≠[]→∀p,H p=none→Q (.ref p) (upd H p (.tup (xs++ys))))
theorem Vals.Bw {xs:List V} {us:List Value} (r:Vals xs us):us= []↔xs= []:=by
 cases r with
 |nil=>simp
 |cons _ _=>simp
theorem KS:my X (binaryOp .Add) (LP X.K):=by
 intro pins s σ H x y v u Q I rx ry h
 obtain ⟨a,b,xs,ys,rfl,rfl,ha,hb,hx,hz,q1,q2⟩:=h
 cases rx
 cases ry
 obtain ⟨its,r1,p1,_⟩:=I.tuple ha
 obtain ⟨its2,r2,p2,_⟩:=I.tuple hb
 refine HT.Lw p1 p2 (fun z=>hx (r1.Bw.mp z)) (fun z=>⟨.ref a,H,I,rfl,q1 (r2.Bw.mp z)⟩) (fun z=>?_) (by rw [←r1.length,←r2.length];exact hz)
 refine ⟨.ref s.heap.objs.size,_,I.laid (t':=s.toks) (o:= .tup (xs++ys)) (fun b ob q=>Heap.get?_push_of_some _ q) (Nat.le_refl _) ?_,rfl,q2 (fun w=>z (r2.Bw.mpr w)) _ (I.hok.fresh (Nat.le_refl _))⟩
 exact ⟨by rw [List.length_append];exact hz,_,r1.append r2,IsTup.new _ _⟩
end
noncomputable def Gs (n:Nat) (i:Int):Option Nat:=if 0≤i then (if i<n then some i.toNat else none) else if -(n:Int)≤i then some (i+n).toNat else none
noncomputable def sH {α:Type} (xs:List α) (i:Int):Option α:=(Gs xs.length i).bind fun j=>xs[j]?
theorem K5 {n:Nat} {i:Int} {j:Nat} (h:Gs n i=some j):seqIndex? i n=some j∧j<n∧-(n:Int)≤i∧i<n:=by
 unfold Gs at h
 by_cases h0:0≤i
 ·
  rw [if_pos h0] at h
  by_cases h1:i<n
  ·
   rw [if_pos h1] at h
   have e:i.toNat=j:=Option.some.inj h
   exact ⟨by rw [seqIndex_of h0 h1,e],by omega,by omega,h1⟩
  ·rw [if_neg h1] at h;cases h
 ·
  rw [if_neg h0] at h
  by_cases h1 : -(n:Int)≤i
  ·
   rw [if_pos h1] at h
   have e:(i+n).toNat=j:=Option.some.inj h
   exact ⟨by rw [seqIndex_neg (by omega) h1,e],by omega,h1,by omega⟩
  ·rw [if_neg h1] at h;cases h
theorem B_ {α:Type} {xs:List α} {i:Int} {v:α} (h:sH xs i=some v): ∃j,seqIndex? i xs.length=some j∧xs[j]?=some v∧j<xs.length∧-(xs.length:Int)≤i∧i<xs.length:=by
 unfold sH at h
 cases e:Gs xs.length i with
 |none=>rw [e] at h;cases h
 |some j=>
  rw [e] at h
  obtain ⟨h1,h2,h3,h4⟩:=K5 e
  exact ⟨j,h1,h,h2,h3,h4⟩
theorem Ly {α:Type} {xs:List α} {j:Nat} {v:α} (h:xs[j]?=some v):sH xs (j:Int)=some v:=by
 have hj:j<xs.length:=(List.getElem?_eq_some_iff.mp h).1
 have e:Gs xs.length (j:Int)=some j:=by
  unfold Gs
  rw [if_pos (by omega),if_pos (by omega)];simp
 unfold sH;rw [e];exact h
theorem JL {α:Type} (xs:List α) (v:α):sH (xs++ [v]) (-1)=some v:=by
 have hl:(xs++ [v]).length=xs.length+1:=by simp
 have e:Gs (xs++ [v]).length (-1)=some xs.length:=by
  unfold Gs
  rw [hl,if_neg (by decide),if_pos (by omega)]
  congr 1
  omega
 unfold sH
 rw [e]
 show (xs++ [v])[xs.length]?=some v
 simp
def LA (b:Expr):Prop:= ∀o i,subscripted b false o i=operate [o,i] (getItem o i)
def C8 (X:Cx) (r:R2):Prop:=
 ∀(value slice:Expr) (pins:List (Addr×Obj)) (s:Shared) (σ:St) (H:Hp) (x y:V) (v u:Value) (Q:VK),Inv X pins σ H s→RelV x v→RelV y u→r x y H Q→
  subscripted slice false v u=operate [v,u] (getItem v u)→wpAny (model X.prog X.w) X.A (subscriptTail value slice v u) (EP X pins σ Q) X.xe s
def MtR (X:Cx) (id:String) (r:V→List V→Hp→VK→Prop):Prop:=
 ∀(pins:List (Addr×Obj)) (s:Shared) (σ:St) (H:Hp) (x:V) (xs:List V) (v:Value) (us:List Value) (Q:VK),Inv X pins σ H s→RelV x v→Vals xs us→r x xs H Q→
  wpAny (model X.prog X.w) X.A (call (.builtin id) (v::us)) (EP X pins σ Q) X.xe s
section
variable {X:Cx} {a b:Expr} {ta tb:TE} {pos:Pos}
theorem C8.or {r r':R2} (h:C8 X r) (h':C8 X r'):C8 X (fun x y H Q=>r x y H Q∨r' x y H Q):=by
 intro value slice pins s σ H x y v u Q I rx ry q hs
 rcases q with q|q
 ·exact h value slice pins s σ H x y v u Q I rx ry q hs
 ·exact h' value slice pins s σ H x y v u Q I rx ry q hs
theorem bL {r:R2} (hr:C8 X r) (ha:PE X a ta) (hb:PE X b tb) (hs:LA b):PE X (.Subscript a b pos) (RN r ta tb):=by
 intro pins s σ H Q I h
 exact Subscript_ (RH ha hb I h fun v u s2 x y H2 I2 rx ry q=>hr a b pins s2 σ H2 x y v u Q I2 rx ry q (hs _ _))
def Sk (K:PySem.W.Frag):R2:=fun x y H Q=> ∃p xs i v,x = .ref p∧y = .int i∧bU K H p xs∧sH xs i=some v∧Q v H
def Si (K:PySem.W.Frag):R2:=fun x y H Q=> ∃p xs i v,x = .ref p∧y = .int i∧iD K H p xs∧sH xs i=some v∧Q v H
def Sj:R2:=fun x y H Q=> ∃z i c,x = .str z∧y = .int i∧z.length≤sizeLine∧sH z.cps.toList i=some c∧Q (.str ⟨#[c]⟩) H
theorem K1:C8 X (Sk X.K):=by
 intro value slice pins s σ H x y v u Q I rx ry h hs
 obtain ⟨p,xs,i,z,rfl,rfl,hq,he,q⟩:=h
 cases rx
 obtain ⟨t,rfl⟩:=ry
 obtain ⟨its,r,pl,hz⟩:=I.list hq
 obtain ⟨j,h1,h2,h3,h4,h5⟩:=B_ he
 obtain ⟨w,ew,rw'⟩:=r.get h2
 have hl:=r.length
 have hn:=yt
 have fin:EP X pins σ Q w s:=⟨z,H,I,rw',q⟩
 by_cases h0:0≤i
 ·have hj:i.toNat=j:=by
   rw [seqIndex_of h0 h5] at h1
   exact Option.some.inj h1
  exact item_listR pl.isList h0 (by omega) (by rw [hj];simpa using ew) fin hs
 ·have hj:(i+(its.toArray.size:Int)).toNat=j:=by
   rw [seqIndex_neg (by omega) h4] at h1
   rw [List.size_toArray,←hl]
   exact Option.some.inj h1
  exact subscriptTail_builtinR (x:=w) pl.isList.typeIs slot_list_getitem.lookup
   (wpAny_getItem_list_neg (Q:=fun r s'=>r=w∧EP X pins σ Q r s') pl.isList (by omega) (by rw [List.size_toArray]<;>omega) (by omega) (by rw [hj];simpa using ew) ⟨rfl,fin⟩) hs
theorem QL:C8 X (Si X.K):=by
 intro value slice pins s σ H x y v u Q I rx ry h hs
 obtain ⟨p,xs,i,z,rfl,rfl,hq,he,q⟩:=h
 cases rx
 obtain ⟨t,rfl⟩:=ry
 obtain ⟨its,r,pl,hz⟩:=I.tuple hq
 obtain ⟨j,h1,h2,h3,h4,h5⟩:=B_ he
 obtain ⟨w,ew,rw'⟩:=r.get h2
 have hl:=r.length
 have hn:=yt
 have fin:EP X pins σ Q w s:=⟨z,H,I,rw',q⟩
 exact subscriptTail_builtinR (x:=w) pl.typeIs slot_tuple_getitem.lookup
  (getItem_tuple (j:=j) (Q:=fun r s'=>r=w∧EP X pins σ Q r s') pl (by omega) (by omega) (by rw [List.size_toArray,←hl];exact h1) (by simpa using ew) ⟨rfl,fin⟩) hs
theorem QM:C8 X Sj:=by
 intro value slice pins s σ H x y v u Q I rx ry h hs
 obtain ⟨z,i,c,rfl,rfl,hz,he,q⟩:=h
 obtain ⟨t,rfl⟩:=rx
 obtain ⟨t',rfl⟩:=ry
 obtain ⟨j,h1,h2,h3,h4,h5⟩:=B_ he
 have hl:z.cps.toList.length=z.length:=by simp [Str.length]
 rw [hl] at h1 h4 h5
 have hn:=yt
 exact tail_any (typeIs_str s z t) slot_str_getitem.lookup (getItem_str (c:=c) (by
  have e1:decide (i < -(2 ^ 63:Int))=false:=decide_eq_false (by omega)
  have e2:decide (i≥2 ^ 63)=false:=decide_eq_false (by omega)
  rw [e1,e2,Bool.or_false]) (by rw [h1];simpa using h2) ⟨.str ⟨#[c]⟩,H,I.tok _,⟨_,rfl⟩,q⟩) hs
def rIx (K:PySem.W.Frag):R2:=fun x y H Q=>Sk K x y H Q∨Si K x y H Q∨Sj x y H Q
theorem QN:C8 X (rIx X.K):=K1.or (QL.or QM)
theorem AV (lo hi:Option Int) (n:Nat):(sliceBounds lo hi none n).1=((HT.iC n 0 lo:Nat):Int)∧(sliceBounds lo hi none n).2.1=((HT.iC n n hi:Nat):Int)∧(sliceBounds lo hi none n).2.2=1:=by
 refine ⟨?_,?_,rfl⟩
 ·
  cases lo with
  |none=>simp [sliceBounds,HT.iC]
  |some i=>
   simp only [sliceBounds,HT.iC,Option.getD_none,show (1:Int) > 0 by decide,if_true]
   by_cases h:i<0
   ·simp only [h,if_true]<;>omega
   ·simp only [h,if_false]<;>omega
 ·
  cases hi with
  |none=>simp [sliceBounds,HT.iC]
  |some i=>
   simp only [sliceBounds,HT.iC,Option.getD_none,show (1:Int) > 0 by decide,if_true]
   by_cases h:i<0
   ·simp only [h,if_true]<;>omega
   ·simp only [h,if_false]<;>omega
theorem zt (its:List Value) (lo hi:Option Int):slicePick its.toArray lo hi none=((its.drop (HT.iC its.length 0 lo)).take (HT.iC its.length its.length hi - HT.iC its.length 0 lo)).toArray:=by
 obtain ⟨h1,h2,h3⟩:=AV lo hi its.toArray.size
 unfold slicePick
 rw [h1,h2,h3]
 simp only [sliceRange_one,pick_run,List.size_toArray]<;>rfl
def aby (K:PySem.W.Frag):V→Option Int→Option Int→Hp→VK→Prop:=fun x lo hi H Q=> ∃a xs,x = .ref a∧bU K H a xs∧∀p,H p=none→Q (.ref p) (upd H p (.lst (yY xs lo hi)))
theorem J3:Fj X (aby X.K):=by
 intro pins s σ H x v vl vu lo hi sl Q I rx hs pl pu h
 obtain ⟨a,xs,rfl,hx,q⟩:=h
 cases rx
 obtain ⟨its,r,ht,hz⟩:=I.list hx
 have hlen:=r.length
 refine ⟨"list",_,slot_list_getitem.lookup,ht.isList.typeIs,?_⟩
 refine wpAny_getItem_list_slice ht.isList hs pl pu .none (by simp) ?_ (by rw [List.size_toArray]<;>omega)
 rw [zt,←hlen]
 refine ⟨.ref s.heap.objs.size,_,I.laid (t':=s.toks) (o:= .lst (yY xs lo hi)) (fun b ob q=>Heap.get?_push_of_some _ q) (Nat.le_refl _) ?_,rfl,q _ (I.hok.fresh (Nat.le_refl _))⟩
 exact ⟨Nat.le_trans (wj xs lo hi) hz,_,0,(r.drop (HT.iC xs.length 0 lo)).take (HT.iC xs.length xs.length hi - HT.iC xs.length 0 lo),Heap.get?_push_size _ rfl⟩
noncomputable def o7:V→Bool
 | .non=>true
 | .bl _=>true
 | .int _=>true
 | .str _=>true
 |_=>false
noncomputable def O6:V→V→Bool
 | .non,.non=>true
 | .bl a,.bl b=>a == b
 | .bl a,.int b=>(if a then 1 else 0) == b
 | .int a,.bl b=>a == (if b then 1 else 0)
 | .int a,.int b=>a == b
 | .str a,.str b=>a == b
 |_,_=>false
theorem Rq {A:Around} {s:Shared} {y x:V} {u v:Value} (ry:RelV y u) (rx:RelV x v) (fy:o7 y=true) (fx:o7 x=true):SeqAt.EqAt A s u v (O6 y x):=by
 cases y with
 |non=>
  cases ry
  cases x with
  |non=>cases rx;exact SeqAt.EqAt.same _
  |bl b=>cases rx;exact SeqAt.EqAt.none_bool b
  |int b=>obtain ⟨t,rfl⟩:=rx;exact SeqAt.EqAt.none_int b t
  |str b=>obtain ⟨t,rfl⟩:=rx;exact SeqAt.EqAt.none_str b t
  |_=>exact absurd (show false=true from fx) Bool.false_ne_true
 |bl a=>
  cases ry
  cases x with
  |non=>cases rx;exact SeqAt.EqAt.bool_none a
  |bl b=>cases rx;exact SeqAt.EqAt.bool_bool a b
  |int b=>obtain ⟨t,rfl⟩:=rx;exact SeqAt.EqAt.bool_int a b t
  |str b=>obtain ⟨t,rfl⟩:=rx;exact SeqAt.EqAt.bool_str a b t
  |_=>exact absurd (show false=true from fx) Bool.false_ne_true
 |int a=>
  obtain ⟨t',rfl⟩:=ry
  cases x with
  |non=>cases rx;exact SeqAt.EqAt.int_none a t'
  |bl b=>cases rx;exact SeqAt.EqAt.int_bool a t' b
  |int b=>obtain ⟨t,rfl⟩:=rx;exact SeqAt.EqAt.int_int a t' b t
  |str b=>obtain ⟨t,rfl⟩:=rx;exact SeqAt.EqAt.int_str a t' b t
  |_=>exact absurd (show false=true from fx) Bool.false_ne_true
 |str a=>
  obtain ⟨t',rfl⟩:=ry
  cases x with
  |non=>cases rx;exact SeqAt.EqAt.str_none a t'
  |bl b=>cases rx;exact SeqAt.EqAt.str_bool a t' b
  |int b=>obtain ⟨t,rfl⟩:=rx;exact SeqAt.EqAt.str_int a t' b t
  |str b=>obtain ⟨t,rfl⟩:=rx;exact SeqAt.EqAt.str_str a t' b t
  |_=>exact absurd (show false=true from fx) Bool.false_ne_true
 |_=>exact absurd (show false=true from fy) Bool.false_ne_true
noncomputable def Lm (x:V) (u:Value):Bool:=match u with
 | .none=>O6 .non x
 | .bool b=>O6 (.bl b) x
 | .int i _=>O6 (.int i) x
 | .str z _=>O6 (.str z) x
 |_=>false
theorem Jx {x y:V} {u:Value} (r:RelV y u) (f:o7 y=true):Lm x u=O6 y x:=by
 cases y with
 |non=>cases r;rfl
 |bl b=>cases r;rfl
 |int i=>obtain ⟨t,rfl⟩:=r;rfl
 |str z=>obtain ⟨t,rfl⟩:=r;rfl
 |_=>exact absurd (show false=true from f) Bool.false_ne_true
theorem Ca {x:V}: ∀{xs:List V} {us:List Value},Vals xs us→xs.all o7=true→us.any (Lm x)=xs.any fun y=>O6 y x
 |_,_,.nil,_=>rfl
 |y::xs,u::us,.cons r t,f=>by
  rw [List.all_cons,Bool.and_eq_true] at f
  rw [List.any_cons,List.any_cons,Jx r f.1,Ca t f.2]
theorem yr {A:Around} {s:Shared} {x:V} {v:Value} (rx:RelV x v) (fx:o7 x=true): ∀{xs:List V} {us:List Value},Vals xs us→xs.all o7=true→∀u∈us,SeqAt.EqAt A s u v (Lm x u)
 |_,_,.nil,_=>fun u hu=>by cases hu
 |y::xs,u::us,.cons r t,f=>fun u' hu=>by
  rw [List.all_cons,Bool.and_eq_true] at f
  rcases List.mem_cons.mp hu with rfl|hu
  ·rw [Jx r f.1];exact Rq r rx f.1 fx
  ·exact yr rx fx t f.2 u' hu
noncomputable def O0 (x:V) (xs:List V):Bool:=xs.any fun y=>O6 y x
def rIn (K:PySem.W.Frag) (neg:Bool):R2:=fun x y H Q=> ∃p xs,y = .ref p∧(bU K H p xs∨iD K H p xs)∧o7 x=true∧xs.all o7=true∧Q (.bl (if neg then !O0 x xs else O0 x xs)) H
theorem Gg:my X (compareOp .In) (rIn X.K false):=by
 intro pins s σ H x y v u Q I rx ry h
 obtain ⟨p,xs,rfl,hq,fx,fs,q⟩:=h
 cases ry
 rcases hq with hq|hq
 ·
  obtain ⟨its,r,pl,hz⟩:=I.list hq
  refine SeqAt.in_listAt (Lm x) pl.isList (fun w hw=>yr rx fx r fs w (by simpa using hw)) ⟨.bl _,H,I,rfl,?_⟩
  rw [show its.toArray.any (Lm x)=its.any (Lm x) by simp,Ca r fs]
  exact q
 ·
  obtain ⟨its,r,pl,hz⟩:=I.tuple hq
  refine SeqAt.in_tupleAt (Lm x) pl (fun w hw=>yr rx fx r fs w (by simpa using hw)) ⟨.bl _,H,I,rfl,?_⟩
  rw [show its.toArray.any (Lm x)=its.any (Lm x) by simp,Ca r fs]
  exact q
theorem BO:bQ X (.builtin "len") (fun xs H Q=> ∃p ys,xs= [.ref p]∧(bU X.K H p ys∨iD X.K H p ys)∧Q (.int ys.length) H):=by
 intro pins s σ H xs us Q I r h
 obtain ⟨p,ys,rfl,hq,q⟩:=h
 obtain ⟨u,rfl,rx⟩:=vals1 r
 cases rx
 have hn:=yt
 rcases hq with hq|hq
 ·
  obtain ⟨its,r',pl,hz⟩:=I.list hq
  have hlen:=r'.length
  exact Calls.call_len_list pl.isList (by simp only [List.size_toArray]<;>omega) ⟨.int ys.length,H,I.tok _,⟨s.toks+1,by rw [List.size_toArray,hlen]⟩,q⟩
 ·
  obtain ⟨its,r',pl,hz⟩:=I.tuple hq
  have hlen:=r'.length
  exact len_tuple pl (by simp only [List.size_toArray]<;>omega) ⟨.int ys.length,H,I.tok _,⟨s.toks+1,by rw [List.size_toArray,hlen]⟩,q⟩
theorem BN:bQ X (.builtin "len") (fun xs H Q=> ∃z,xs= [.str z]∧z.length≤sizeLine∧Q (.int z.length) H):=by
 intro pins s σ H xs us Q I r h
 obtain ⟨z,rfl,hz,q⟩:=h
 obtain ⟨u,rfl,t,rfl⟩:=vals1 r
 have hn:=yt
 exact len_str (by omega) ⟨.int z.length,H,I.tok _,⟨_,rfl⟩,q⟩
theorem bQ.or {f:Value} {r r':List V→Hp→VK→Prop} (h:bQ X f r) (h':bQ X f r'):bQ X f (fun xs H Q=>r xs H Q∨r' xs H Q):=by
 intro pins s σ H xs us Q I rs q
 rcases q with q|q
 ·exact h pins s σ H xs us Q I rs q
 ·exact h' pins s σ H xs us Q I rs q
theorem BM:bQ X (.type "list") (fun xs H Q=> ∃p ys,xs= [.ref p]∧(bU X.K H p ys∨iD X.K H p ys)∧∀l,H l=none→Q (.ref l) (upd H l (.lst ys))):=by
 intro pins s σ H xs us Q I r h
 obtain ⟨p,ys,rfl,hq,q⟩:=h
 obtain ⟨u,rfl,rx⟩:=vals1 r
 cases rx
 have fin: ∀(its:List Value),Vals ys its→ys.length≤sizeLine→∀(h':Heap) (c':Nat),(∀b o',s.heap.get? b=some o'→h'.get? b=some o')→
   h'.get? s.heap.objs.size=some {cls:= .type "list",dict:=none,data:= .seq its.toArray c',slots:=#[]}→EP X pins σ Q (.ref s.heap.objs.size) {s with heap:=h'}:=fun its r' hz h' c' kp e=>
  ⟨.ref s.heap.objs.size,_,I.laid (t':=s.toks) kp (Nat.le_refl _) (show bW X.prog X.w _ h' _ (.lst ys) from ⟨hz,its,c',r',e⟩),rfl,q _ (I.hok.fresh (Nat.le_refl _))⟩
 rcases hq with hq|hq
 ·
  obtain ⟨its,r',pl,hz⟩:=I.list hq
  have hlen:=r'.length
  obtain ⟨o,ho,hc,n,hd⟩:=pl.isList
  exact call_list_seq p (.inl rfl) ho hc hd (fun h' c' kp e=>fin its r' hz h' c' kp e) (by simp only [List.size_toArray]<;>omega)
 ·
  obtain ⟨its,r',pl,hz⟩:=I.tuple hq
  have hlen:=r'.length
  obtain ⟨o,ho,hc,n,hd⟩:=pl
  exact call_list_seq p (.inr rfl) ho hc hd (fun h' c' kp e=>fin its r' hz h' c' kp e) (by simp only [List.size_toArray]<;>omega)
def Ph (K:PySem.W.Frag) (T:String) (x:V) (H:Hp):Prop:=match x with
 | .str _=>T = "str"
 | .int _=>T = "int"
 |
   .ref p=>(T = "list" ∧∃xs,bU K H p xs)∨(T = "tuple" ∧∃o,K.lookup p=some o∧o.cls = .type "tuple" ∧o.dict=none)∨
   (T = "dict" ∧((∃kvs,H p=some (.dK kvs))∨∃kvs,H p=some (.dT kvs)))∨(T = "set" ∧∃S n,H p=some (.set S n))
 |_=>False
theorem Pg {pins:List (Addr×Obj)} {σ:St} {H:Hp} {s:Shared} {T:String} {x:V} {v:Value} (I:Inv X pins σ H s) (r:RelV x v) (ty:Ph X.K T x H):
  s.TypeIs v T∧∀a,v = .ref a→∃ob,s.heap.get? a=some ob∧ob.dict=none:=by
 cases x with
 |str z=>
  obtain ⟨t,rfl⟩:=r
  cases (show T = "str" from ty)
  exact ⟨typeIs_str s z t,fun _ e=>nomatch e⟩
 |int i=>
  obtain ⟨t,rfl⟩:=r
  cases (show T = "int" from ty)
  exact ⟨typeIs_int s i t,fun _ e=>nomatch e⟩
 |ref p=>
  cases r
  rcases ty with ⟨rfl,xs,hq⟩|⟨rfl,o,hk,hc,hd⟩|⟨rfl,hk⟩|⟨rfl,S,n,hk⟩
  ·
   obtain ⟨its,_,pl,_⟩:=I.list hq
   refine ⟨pl.isList.typeIs,fun a e=>?_⟩
   cases e
   obtain ⟨o,n,e,c,hd,_⟩:=pl
   exact ⟨o,e,hd⟩
  ·
   refine ⟨⟨o,I.l_ p o hk,hc⟩,fun a e=>?_⟩
   cases e
   exact ⟨o,I.l_ _ o hk,hd⟩
  ·have z: ∃o,s.heap.get? p=some o∧o.ExactDict:=by
    rcases hk with ⟨kvs,hk⟩|⟨kvs,hk⟩
    ·
     obtain ⟨_,_,_,_,o,_,_,e,ex,_⟩:=I.hok p _ hk
     exact ⟨o,e,ex⟩
    ·
     obtain ⟨_,_,_,_,o,_,_,e,ex,_⟩:=I.hok p _ hk
     exact ⟨o,e,ex⟩
   obtain ⟨o,e,ex⟩:=z
   refine ⟨⟨o,e,ex.1⟩,fun a e2=>?_⟩
   cases e2
   exact ⟨o,e,ex.2.1⟩
  ·
   obtain ⟨o,_,_,_,e,ex,_⟩:=I.hok p _ hk
   refine ⟨⟨o,e,ex.1⟩,fun a e2=>?_⟩
   cases e2
   exact ⟨o,e,ex.2.1⟩
 |_=>exact False.elim ty
def abn (K:PySem.W.Frag) (T:String) (r:V→List V→Hp→VK→Prop) (to:TE):TE:=fun σ H Q=>to σ H fun x H1=>Ph K T x H1∧r x [] H1 Q
def R4 (K:PySem.W.Frag) (T:String) (r:V→List V→Hp→VK→Prop) (to:TE) (t:TA):TE:=fun σ H Q=>to σ H fun x H1=>Ph K T x H1∧t σ H1 fun xs H2=>r x xs H2 Q
variable {o e:Expr} {es:List Expr} {to:TE} {t:TA} {name:Str} {apos cpos:Pos} {T id:String} {r:V→List V→Hp→VK→Prop}
theorem ES (pa:PlainAttrs T) (slot:Slot T name id) (hty:typeOf (.builtin id)=pure (.type "method_descriptor")) (hm:MtR X id r) (ho:PE X o to) (ha:PA X (e::es) t)
  (hbase:attributeBase o name X.env (eval o X.env)=eval o X.env:=by rfl)
  (
   hfew:((backTo cpos (starEach (e::es) X.env)).all (fun x=>!x.1)&&(backToKw cpos (keywordEach [] X.env)).all (fun x=>x.1.isSome)
   &&decide ((e::es).length+([]:List Keyword).length+(if ([]:List Keyword).isEmpty then 0 else 1)<30))=true:=by rfl)
  (hline:(apos.endLine == cpos.line)=true:=by rfl) (hs:starEach (e::es) X.env=(false,eval e X.env)::starEach es X.env:=by rfl) (hplain:(backTo cpos (starEach es X.env)).any (·.1)=false:=by rfl):
  PE X (.Call (.Attribute o name apos) (e::es) [] cpos) (R4 X.K T r to t):=by
 intro pins s σ H Q I h
 refine wpAny_Call_method_late hbase hfew hline rfl (thn (ho pins s σ H _ I h) fun v s1 ⟨x,H1,I1,r1,ty,q1⟩=>?_)
 obtain ⟨h1,h2⟩:=Pg I1 r1 ty
 refine ⟨T,id,pa,slot,hty,h1,h2,?_⟩
 have hA:=ha cpos pins s1 σ H1 _ I1 q1
 rw [hs] at hA⊢
 refine Calls.callWith_builtin (by show (false||(backTo cpos (starEach es X.env)).any (·.1))=false;rw [hplain]<;>rfl) (Calls.evalArgs_plain ?_)
 exact thn hA fun us s2 ⟨vs,H2,I2,r2,q2⟩=>hm pins s2 σ H2 x vs v us Q I2 r1 r2 q2
end
def MtM (X:Cx) (id:String) (r:V→List V→Hp→VK→Prop):Prop:=
 ∀(pins:List (Addr×Obj)) (s:Shared) (σ:St) (H:Hp) (x:V) (xs:List V) (v:Value) (us:List Value) (Q:VK),Inv X pins σ H s→RelV x v→Vals xs us→r x xs H Q→
  wpAny (model X.prog X.w) X.A (call (.builtin id) (v::us)) (EP X pins σ Q) X.xe s
theorem Vals.one: ∀{x:V} {us:List Value},Vals [x] us→∃u,us= [u]∧RelV x u
 |_,_,.cons r .nil=>⟨_,rfl,r⟩
theorem Vals.rep {xs:List V} {us:List Value} (h:Vals xs us): ∀k:Nat,Vals (List.replicate k xs).flatten (List.replicate k us).flatten
 |0=> .nil
 |k+1=>by
  rw [List.replicate_succ,List.replicate_succ,List.flatten_cons,List.flatten_cons]
  exact Vals.append h (Vals.rep h k)
theorem foldl_rep (its:List Value): ∀(k:Nat) (acc:List Value),
  List.foldl (fun x1 x2=>x1++x2) acc.toArray (List.replicate k its.toArray)=(acc++(List.replicate k its).flatten).toArray
 |0,acc=>by simp
 |k+1,acc=>by
  have e:acc.toArray++its.toArray=(acc++its).toArray:=by simp
  have e2:(acc++its)++(List.replicate k its).flatten=acc++(List.replicate (k+1) its).flatten:=by
   rw [List.replicate_succ,List.flatten_cons,List.append_assoc]
  rw [←e2,←foldl_rep its k (acc++its),←e,List.replicate_succ,List.foldl_cons]
section
variable {X:Cx} {pins:List (Addr×Obj)} {σ:St} {H:Hp} {s:Shared} {l b:Addr} {xs ys zs:List V}
theorem Inv.lset {its its':List Value} {n:Nat} {f:Array Value→Array Value} {t':Nat} (I:Inv X pins σ H s) (hH:H l=some (.lst xs))
  (e:s.heap.get? l=some {cls:= .type "list",data:= .seq its.toArray n}) (hf:f its.toArray=its'.toArray) (hv:Vals ys its') (hz:ys.length≤sizeLine):
  Inv X pins σ (upd H l (.lst ys)) {s with heap:=s.heap.update l (Obj.mapSeq f),toks:=t'}:=by
 have q:=PySem.IsL.update e f
 rw [hf] at q
 refine I.write (x:=l) (e:=l) (by rw [hH];exact trivial) (.inl rfl) (fun b' u hb hu=>(Heap.get?_update_other s.heap (Obj.mapSeq f) (Ne.symm hb)).trans hu) ⟨_,q⟩ ?_
 exact ⟨hz,its',_,hv,q⟩
theorem Inv.lnew {its:List Value} {t':Nat} (I:Inv X pins σ H s) (hv:Vals ys its) (hz:ys.length≤sizeLine):
  Inv X pins σ (upd H s.heap.objs.size (.lst ys)) {s with heap:=s.heap.push {cls:= .type "list",data:= .seq its.toArray},toks:=t'}:=
 I.laid (fun _ _ q=>Heap.get?_push_of_some _ q) (Nat.le_refl _) ⟨hz,its,0,hv,Heap.get?_push_size _ rfl⟩
theorem Inv.fresh (I:Inv X pins σ H s):H s.heap.objs.size=none:=I.hok.fresh (Nat.le_refl _)
theorem Inv.Ij (I:Inv X pins σ H s) (hH:H l=some (.lst xs)):xs.length≤sizeLine∧∃(its:List Value) (n:Nat),Vals xs its∧xs.length=its.length∧s.heap.get? l=some {cls:= .type "list",data:= .seq its.toArray n}:=by
 obtain ⟨z,its,n,r,e⟩:=I.hok l _ hH
 exact ⟨z,its,n,r,r.length,e⟩
theorem H_ {n:Nat} (h:n≤sizeLine):Builtin.List.listTooLong n=false:=by
 unfold Builtin.List.listTooLong
 exact decide_eq_false (by omega)
end
section
variable {X:Cx}
def KA:V→List V→Hp→VK→Prop:=fun x vs H Q=> ∃l xs y,x = .ref l∧vs= [y]∧H l=some (.lst xs)∧xs.length<sizeLine∧Q .non (upd H l (.lst (xs++ [y])))
theorem Gm:MtM X "list.append" KA:=by
 intro pins s σ H x vs v us Q I rx rv h
 obtain ⟨l,xs,y,rfl,rfl,hH,hz,q⟩:=h
 cases rx
 obtain ⟨u,rfl,ru⟩:=rv.one
 obtain ⟨z,its,n,r,hl,e⟩:=I.Ij hH
 refine call_meets F.slot_list_append ⟨_,e,rfl⟩ F.entry_list_append (F.args_list_append_2 _ _) (PySem.list_append l its.toArray n u (by rw [List.size_toArray];omega)) ⟨e,?_⟩
 refine ⟨.non,_,I.lset (its':=its++ [u]) hH e (by simp) (r.append (.cons ru .nil)) ?_,rfl,q⟩
 rw [List.length_append,List.length_singleton]
 omega
def Sq:R2:=fun x y H Q=> ∃l b xs zs,x = .ref l∧y = .ref b∧H l=some (.lst xs)∧H b=some (.lst zs)∧xs.length+zs.length≤sizeLine∧∀p,H p=none→Q (.ref p) (upd H p (.lst (xs++zs)))
theorem Qk:my X (binaryOp .Add) Sq:=by
 intro pins s σ H x y v u Q I rx ry h
 obtain ⟨l,b,xs,zs,rfl,rfl,hH,hB,hz,q⟩:=h
 cases rx
 cases ry
 obtain ⟨z,its,n,r,hl,e⟩:=I.Ij hH
 obtain ⟨z2,its2,n2,r2,hl2,e2⟩:=I.Ij hB
 refine PySem.P.add_list e e2 ?_ (by rw [List.size_toArray,List.size_toArray];omega)
 have ea:its.toArray++its2.toArray=(its++its2).toArray:=by simp
 rw [ea]
 exact ⟨.ref _,_,I.lnew (t':=s.toks) (r.append r2) (by rw [List.length_append];omega),rfl,q _ I.fresh⟩
def abz:R2:=fun x y H Q=> ∃l k xs,x = .ref l∧y = .int k∧H l=some (.lst xs)∧-(2 ^ 63)≤k∧k<2 ^ 63∧xs.length*k.toNat≤sizeLine∧
 ∀p,H p=none→Q (.ref p) (upd H p (.lst (List.replicate k.toNat xs).flatten))
theorem len_rep {α:Type} (xs:List α) (k:Nat):(List.replicate k xs).flatten.length=k*xs.length:=by
 induction k with
 |zero=>simp
 |succ k ih=>rw [List.replicate_succ,List.flatten_cons,List.length_append,ih,Nat.succ_mul,Nat.add_comm]
theorem Qg:my X (binaryOp .Mult) abz:=by
 intro pins s σ H x y v u Q I rx ry h
 obtain ⟨l,k,xs,rfl,rfl,hH,h1,h2,hz,q⟩:=h
 cases rx
 obtain ⟨t,rfl⟩:=ry
 obtain ⟨z,its,n,r,hl,e⟩:=I.Ij hH
 have hlen:its.toArray.size*k.toNat≤sizeLine:=by rw [List.size_toArray,←hl];exact hz
 have hcap: ¬its.toArray.size*k.toNat > (2 ^ 63 - 1) / 8:=by
  have:(sizeLine:Nat)≤(2 ^ 63 - 1) / 8:=by decide
  omega
 have hfit: ¬(!Builtin.List.listFitsIndex k)=true:=by
  rw [fitsIndex_both h1 h2]
  exact Bool.false_ne_true
 have hlong: ¬Builtin.List.listTooLong (its.toArray.size*k.toNat)=true:=by
  rw [H_ hlen]
  exact Bool.false_ne_true
 have hnew:List.foldl (fun x1 x2=>x1++x2) #[] (List.replicate (if its.toArray.isEmpty=true then 0 else k.toNat) its.toArray)=(List.replicate k.toNat its).flatten.toArray:=by
  have f0: ∀m:Nat,List.foldl (fun x1 x2=>x1++x2) #[] (List.replicate m its.toArray)=(List.replicate m its).flatten.toArray:=fun m=>by
   have:=foldl_rep its m []
   rw [List.nil_append] at this
   exact this
  rw [f0]
  cases its with
  |nil=>simp
  |cons a r'=>rw [if_neg (by simp)]
 refine wpAny_binaryOp_repeat_ref (T:="list") (U:="int") (by decide) ⟨_,e,rfl⟩ (fun s'=>typeIs_int s' k t) noFill_list_mul F.fills_int_mul F.slot_int_rmul repeat_list F.slot_int_index.lookup
  (
   call_meets F.slot_int_rmul (typeIs_int s k t) F.entry_int_rmul (F.args_int_rmul_2 _ _) (int___rmul___int_list k t l its.toArray n)
   ⟨e,rfl,⟨_,e,rfl⟩,call_meets F.slot_list_mul ⟨_,e,rfl⟩ F.entry_list_mul (F.args_list_mul_2 _ _) (AutoListH.list___mul___list_int_3 l its.toArray n k t hfit hcap hlong) ⟨e,?_⟩⟩)
 rw [hnew]
 exact ⟨.ref _,_,I.lnew (t':=s.toks) (r.rep k.toNat) (by rw [len_rep,Nat.mul_comm];exact hz),rfl,q _ I.fresh⟩
end
section
variable {prog:Program} {w:World} {A:Around} {E:Value→Shared→Prop} {s:Shared}
end
section
variable {X:Cx}
end
end L2
namespace Att
open PySem PySem.W PySem.Calls PyProof.Rows
theorem wU {P:Params} {h:Heap}: ∀(ns:List Int) (vs:List Value),WellAll P h vs (ns.map WData.int)→IntsAre vs ns:=by
 intro ns
 induction ns with
 |nil=>
  intro vs w
  rw [List.map_nil] at w
  cases w
  exact .nil
 |cons n ns ih=>
  intro vs w
  rw [List.map_cons] at w
  cases w with
  |cons a b=>
   cases a
   exact .cons _ _ (ih _ b)
theorem Fw {l:OpenLaw} {n:Nat} (hn:l.most=some n) {P:Params} {h:Heap} {args:List WData} {vals:List Value}
  (hpre:l.row.toRowW.claim.pre args=true) (hwl:WellAll P h vals args):
  ∃a vs ns,vals= [Value.ref a]∧args= [WData.list (ns.map WData.int)]∧h.get? a=some {cls:= .type "list",data:= .seq vs.toArray}∧IntsAre vs ns∧ns.length≤n:=by
 have hsh:WShape.hasAll [] args [.list .int]=true:=(pre_splitW hpre).1
 have hc:l.pre.holds [] {args:=args}=true:=(pre_splitW hpre).2
 obtain ⟨d,r,rfl,h1,h2⟩:=hasAllW_cons hsh
 obtain rfl:=hasAllW_nil h2
 obtain ⟨xs,rfl,h3⟩:=hasW_list h1
 obtain ⟨ns,rfl⟩:=items_int h3
 have hlen:ns.length≤n:=by
  unfold OpenLaw.pre at hc
  have h4:(WTm.not (.lt (.lit (.int (n:Int))) (.len (.arg 0)))).holds [] {args:=[.list (ns.map .int)]}=true:=by
   have h4:=(holds_andW hc).1
   rw [hn] at h4
   exact h4
  have h5:=condW_of h4 (w_not (w_lt w_lit (w_len_list (w_arg rfl))))
  rw [List.length_map] at h5
  refine Nat.le_of_not_lt fun q=>?_
  have q':(n:Int)<((ns.length:Nat):Int):=by omega
  first
   |(rw [decide_eq_true q'] at h5;exact absurd h5 (by decide))
   |(simp at h5;omega)
 cases hwl with
 |cons w1 w2=>
  cases w2
  cases w1 with
  |list ho hall=>exact ⟨_,_,ns,rfl,rfl,ho,wU ns _ hall,hlen⟩
theorem Gb (l:OpenLaw) (args:List WData):l.row.toRowW.claim.post args (.bool true) args=true:=
 postW_of (r:=l.row.toRowW) (X:=(true == true))
  (show WShape.has [] (.bool true) .bool=true by first|rfl|decide|simp [WShape.has,WShape.arms,WShape.armsAll])
  (show (WTm.eq .res (.lit (.bool true))).value [] {args:=args,res:=some (.bool true),after:=args}=some (.bool (true == true)) from w_eq_bool (w_res rfl) w_lit) rfl
theorem C4 {l:OpenLaw} {n:Nat} {q:Program} {loose:List Str} {XP:(Str→Option Value)→Heap→Prop} {YP:World→Heap→Prop} {d:DefRec}
  (hn:l.most=some n) (hdf:d.params.defaults= [])
  (
   call: ∀(w:World) (s₀ s₁:Shared) (mg mb:Str→Option Value) (fa:Addr) (o:Obj) (pm cd doc:Value) (a:Addr) (vs:List Value) (ns:List Int),
   Ground q loose [] XP w s₀ mg mb s₁.heap→YP w s₁.heap→
   s₁.heap.get? fa=some o→o.data = .func (docDef d.name d.params d.body d.scope pm cd doc)→s₁.heap.CodeRec cd d.name→mg d.name=some (.ref fa)→
   s₁.heap.get? a=some {cls:= .type "list",data:= .seq vs.toArray}→IntsAre vs ns→ns.length≤n→s₁.gens = #[]→
   codeAny (model l.prog w) callerA (.call (.ref fa) ⟨[.ref a],[]⟩) (fun r s'=>r = .ok (.ret (.bool true))∧OldK s₁.heap s'.heap∧s'.os=s₁.os∧AllBare s'.gens) s₁):
  WalkO q loose XP YP l.row.toRowW d [] (fun f vs=>PySem.call f vs):=by
 intro w s₀ s₁ mg mb G Y fa o pm cd doc dV kV ho hd hcd hD hmg hg args vals as hpre hlay hrd hwl hlo
 obtain rfl:dV = .none:=Dflts.none hD hdf
 obtain rfl:kV = .none:=Dflts.noKw hD
 obtain ⟨a,vs,ns,rfl,rfl,hobj,hints,hlen⟩:=Fw hn hpre hwl
 refine enter_call (codeAny_mono (call w s₀ s₁ mg mb fa o pm cd doc a vs ns G Y ho (fd_plain hd) hcd hmg hobj hints hlen hg) fun r s' hq=>?_)
 obtain ⟨rfl,h2,h3,h4⟩:=hq
 exact ⟨.inl ⟨.bool true,.bool true,[],rfl,fun _=>rfl,.bool true,Gb l _,fun _=>⟨List.Pairwise.nil,fun _ hm=>(nomatch hm)⟩⟩,h2,h3,h4⟩
section
variable {prog:Program} {w:World} {A:Around} {E:Value→Shared→Prop} {s:Shared} {K:Frag}
end
end Att
namespace L2
open PySem PySem.Spec PyProof.Rows
theorem Ah: ∀{vs:List Value} {ns:List Int},IntsAre vs ns→Vals (ns.map V.int) vs
 |_,_,.nil=> .nil
 |_,_,.cons n t h=> .cons ⟨t,rfl⟩ (Ah h)
def JN (H:Hp):Prop:= ∀b,H b=none∨∃o xs,H b=some (.frz o (.lst xs))
theorem Iq {P:Program} {w:World} {K:PySem.W.Frag} {mg mb:Str→Option Value} {CX:pz} {k:Nat} {fa a:Addr} {fd:FuncData} {x:Str} {sp:Sp} {s₁:Shared} {vs:List Value} {ns:List Int}
  (KX:K.In s₁.heap) (hns:s₁.heap.Ns mainGlobals mg) (hb:s₁.heap.Ns builtinsNs mb) (hbb: ∀x:Str,x≠ "__name__" →mb x=bootBuiltins x) (hlim:s₁.heap.NoLimit) (hg:s₁.gens = #[])
  (ha:s₁.heap.get? a=some {cls:= .type "list",data:= .seq vs.toArray}) (hi:IntsAre vs ns) (hl:ns.length≤sizeLine) (hr:cz k callerA)
  (F: ∀base:Heap,K.In base→base.Ns mainGlobals mg→vT P w K mg base CX k fa fd [x] sp) (hbind: ∀(s:Shared) (u:Value),BindsTo s fd ⟨[u],[]⟩ [(x,u)])
  (hsp: ∀H:Hp,JN H→bU K H a (ns.map V.int)→sp [.ref a] H (fun v _=>v = .bl true) fun _ _ _=>False)
  (hCX: ∀H e s',CX [] H s₁ (fun _ _ _=>False) e s'→False):
  codeAny (model P w) callerA (.call (.ref fa) ⟨[.ref a],[]⟩) (fun r s'=>r = .ok (.ret (.bool true))∧OldK s₁.heap s'.heap∧s'.os=s₁.os∧AllBare s'.gens) s₁:=by
 have rv:=Ah hi
 have lenV:=hi.length

 have core: ∀H:Hp,JN H→bU K H a (ns.map V.int)→xG P w H s₁.heap→(∀b,H b≠none→b=a)→(H a≠none→K.lookup a=none)→
   codeAny (model P w) callerA (.call (.ref fa) ⟨[.ref a],[]⟩) (fun r s'=>r = .ok (.ret (.bool true))∧OldK s₁.heap s'.heap∧s'.os=s₁.os∧AllBare s'.gens) s₁:=by
  intro H hO hS hok hA hK
  have base_of: ∀{b:Addr} {o:Obj},s₁.heap.get? b=some o→H b=none→(BE s₁.heap H).get? b=some o:=fun e n=>Jl e n
  have noA: ∀{b:Addr} {o:Obj} {es:Array DictEntry} {ep:Nat},s₁.heap.get? b=some o→o.data = .dict es ep→H b=none:=fun {b o es ep} e d=>by
   cases q:H b with
   |none=>rfl
   |some u=>
    have e':b=a:=hA b (by rw [q];simp)
    subst e'
    rw [ha] at e;cases e
    have d':Data.seq vs.toArray _=Data.dict es ep:=d
    cases d'
  have nsK: ∀{b:Addr} {m:Str→Option Value},s₁.heap.Ns b m→(BE s₁.heap H).Ns b m:=fun {b m} ⟨o,es,ep,e,d,r⟩=>⟨o,es,ep,base_of e (noA e d),d,r⟩
  have hKb:K.In (BE s₁.heap H):=fun b o e=>base_of (KX b o e) (by
   cases q:H b with
   |none=>rfl
   |some u=>
    have e':b=a:=hA b (by rw [q];simp)
    subst e'
    rw [hK (by rw [q];simp)] at e;cases e)
  have hM:Mod K mg (BE s₁.heap H):=⟨hKb,nsK hns,⟨mb,nsK hb,hbb⟩,let ⟨mc,h1,h2⟩:=hlim;⟨mc,nsK h1,h2⟩⟩
  have e0:Et P w K mg (BE s₁.heap H) callerA [] s₁ H:=⟨rfl,hM,fun b o e=>KZ e,Nat.le_of_eq (Gy _ _),trivial,fun b hb=>absurd (show b∈([]:List Addr) from hb) (by simp),hok,.of_eq hg⟩
  refine codeAny_mono ((F _ hKb (nsK hns)).run callerA [] s₁ H ⟨[.ref a],[]⟩ [.ref a] [.ref a] _ _ hr e0 (hbind s₁ (.ref a)) (.cons rfl .nil) (hsp H hO hS)) fun r s' h=>?_
  cases r with
  |error e=>exact (hCX H e s' h).elim
  |ok fl=>
   cases fl with
   |next=>exact False.elim h
   |brk=>exact False.elim h
   |cont=>exact False.elim h
   |ret u=>
    obtain ⟨v,H',os,bare,un,hok',r',q⟩:=h
    have q':v = .bl true:=q
    subst q'
    obtain rfl:u=Value.bool true:=r'
    refine ⟨rfl,OldK.of_keep fun b o e=>?_,os,bare⟩
    cases q:H b with
    |none=>exact un.keep b o e q (by intro z;exact absurd (show b∈([]:List Addr) from z) (by simp)) (by simp)
    |some u=>
     rcases hO b with z|⟨ob,xs,z⟩
     ·rw [q] at z;cases z
     ·
      have z2:=un.frzs b ob _ z
      obtain ⟨e1,_⟩:=hok b _ z
      obtain ⟨e2,_⟩:=hok' b _ z2
      rw [e] at e1;cases e1
      exact e2
 cases hk:K.lookup a with
 |some o=>

  have e:=KX a o hk
  rw [ha] at e
  cases e
  refine core (fun _=>none) (fun _=> .inl rfl) (.inr ⟨_,vs.toArray,_,hk,rfl,rfl,rfl,by rw [List.size_toArray,lenV];exact hl,by simpa using rv⟩) (fun b u z=>by have z':(none:Option HO)=some u:=z;cases z') (fun b z=>absurd rfl z) fun z=>absurd rfl z
 |none=>
  refine core (fun b=>if b=a then some (.frz {cls:= .type "list",data:= .seq vs.toArray} (.lst (ns.map V.int))) else none) (fun b=>?_) (.inl (.inr ⟨{cls:= .type "list",data:= .seq vs.toArray},if_pos rfl⟩)) (fun b u z=>?_) (fun b z=>?_) fun _=>hk
  ·
   by_cases hb:b=a
   ·exact .inr ⟨_,_,if_pos hb⟩
   ·exact .inl (if_neg hb)
  ·
   by_cases hb:b=a
   ·
    have z':=(if_pos hb).symm.trans z
    cases z'
    subst hb
    exact ⟨ha,by rw [List.length_map];exact hl,vs,_,rv,ha⟩
   ·
    have z':=(if_neg hb).symm.trans z
    cases z'
  ·
   by_cases hb:b=a
   ·exact hb
   ·exact absurd (if_neg hb) z
theorem JW {l:PySem.W.OpenLaw} {n k:Nat} {q:Program} {loose:List Str} {XP:(Str→Option Value)→Heap→Prop} {YP:World→Heap→Prop} {d:DefRec} {K:Params→PySem.W.Frag} {CX:World→pz} {sp:World→Sp} {x:Str}
  (hn:l.most=some n) (hn2:n≤sizeLine) (hdf:d.params.defaults= []) (hr:cz k callerA)
  (hY: ∀(w:World) (h:Heap),YP w h→(K w.params).In h)
  (
   F: ∀(w:World) (mg:Str→Option Value) (fa:Addr) (h:Heap),(K w.params).In h→h.Ns mainGlobals mg→mg d.name=some (.ref fa)→
   ∃fd:FuncData,(∀(s:Shared) (u:Value),BindsTo s fd ⟨[u],[]⟩ [(x,u)])∧
    ∀base:Heap,(K w.params).In base→base.Ns mainGlobals mg→vT l.prog w (K w.params) mg base (CX w) k fa fd [x] (sp w))
  (hsp: ∀(w:World) (H:Hp) (a:Addr) (ns:List Int),ns.length≤n→JN H→bU (K w.params) H a (ns.map V.int)→sp w [.ref a] H (fun v _=>v = .bl true) fun _ _ _=>False)
  (hCX: ∀(w:World) (H:Hp) (s:Shared) (e:Value) (s':Shared),CX w [] H s (fun _ _ _=>False) e s'→False):
  PySem.W.WalkO q loose XP YP l.row.toRowW d [] (fun f vs=>PySem.call f vs):=by
 refine Att.C4 hn hdf fun w s₀ s₁ mg mb fa o pm cd doc a vs ns G Y ho hd hcd hmg hobj hints hlen hg=>?_
 have KX:=hY w _ Y
 obtain ⟨fd,hb,hF⟩:=F w mg fa _ KX G.T.g hmg
 exact Iq KX G.T.g G.T.b G.T.builtins G.T.nolimit hg hobj hints (Nat.le_trans hlen hn2) hr hF hb (fun H hO hS=>hsp w H a ns hlen hO hS) fun H e s'=>hCX w H s₁ e s'
theorem GU {l:PySem.W.OpenLaw} {n k:Nat} {q:Program} {loose:List Str} {XP:(Str→Option Value)→Heap→Prop} {YP:World→Heap→Prop} {d:DefRec} {K:Params→PySem.W.Frag} {CX:pz} {sp:PySem.W.Frag→Sp} {x:Str}
  (hn:l.most=some n) (hn2:n≤sizeLine) (hdf:d.params.defaults= []) (hr:cz k callerA)
  (hY: ∀(w:World) (h:Heap),YP w h→(K w.params).In h)
  (
   F: ∀(w:World) (mg:Str→Option Value) (fa:Addr) (h:Heap),(K w.params).In h→h.Ns mainGlobals mg→mg d.name=some (.ref fa)→
   ∃fd:FuncData,(∀(s:Shared) (u:Value),BindsTo s fd ⟨[u],[]⟩ [(x,u)])∧
    ∀base:Heap,(K w.params).In base→base.Ns mainGlobals mg→vT l.prog w (K w.params) mg base CX k fa fd [x] (sp (K w.params)))
  (hsp: ∀(K:PySem.W.Frag) (H:Hp) (a:Addr) (ns:List Int),ns.length≤n→JN H→bU K H a (ns.map V.int)→sp K [.ref a] H (fun v _=>v = .bl true) fun _ _ _=>False)
  (hCX: ∀(H:Hp) (s:Shared) (e:Value) (s':Shared),CX [] H s (fun _ _ _=>False) e s'→False):
  PySem.W.WalkO q loose XP YP l.row.toRowW d [] (fun f vs=>PySem.call f vs):=
 JW (K:=K) (CX:=fun _=>CX) (sp:=fun w=>sp (K w.params)) hn hn2 hdf hr hY F (fun w H a ns h1 h2 h3=>hsp (K w.params) H a ns h1 h2 h3) fun _ H s e s'=>hCX H s e s'
end L2
namespace L2
open PySem PySem.Spec PyProof.Rows
noncomputable def inClass (s:Stmt) (j:Nat):Stmt:=match s with
 | .ClassDef _ _ _ body _ _ _ _ _ _ _=>body.getD j (.Pass ⟨0,0,0,0⟩)
 |_=> .Pass ⟨0,0,0,0⟩
noncomputable def di (s:Stmt):Arguments:=match s with
 | .FunctionDef _ a _ _ _ _ _ _ _ _=>a
 |_=>{posonlyargs:=[],args:=[],vararg:=none,kwonlyargs:=[],kw_defaults:=[],kwarg:=none,defaults:=[]}
noncomputable def b7 (s:Stmt):List Stmt:=match s with
 | .FunctionDef _ _ b _ _ _ _ _ _ _=>b
 |_=>[]
noncomputable def aA (s:Stmt):Scope:=match s with
 | .FunctionDef _ _ _ _ _ _ sc _ _ _=>sc
 |_=>{kind:= .function,names:=[],isGenerator:=false,isCoroutine:=false}
abbrev RS:pz:=fun _ _ _ _ _ _=>False
abbrev E0:XK:=fun _ _ _=>False
theorem Su {X:Cx}:Passes RS X E0:=fun _ _ _ _ _ _ _ h=>h.elim
structure Fun (K:PySem.W.Frag) (x qual:Str) (st:Stmt) (f:Addr) (fd:FuncData):Prop where
 ex: ∃(oc:Value) (od:Option Addr) (kV doc pm:Value) (an:Option Addr) (cdv ct:Value) (osl:Array (Option Value)),
  fd=PySem.W.fnOf x qual (di st) (b7 st) (aA st) .none kV doc pm an cdv ct∧K.lookup f=some ⟨oc,od,.func fd,osl⟩∧PySem.W.codeIn K cdv qual=true
 kp:PySem.W.keepIn K (.ref f)=true
section
variable {P:Program} {w:World} {K:PySem.W.Frag} {mg:Str→Option Value} {base:Heap}
theorem Fun.binds {x qual:Str} {st:Stmt} {f:Addr} {fd:FuncData} {ps:List Str} (F:Fun K x qual st f fd)
  (h: ∀(kV doc pm:Value) (an:Option Addr) (cdv ct:Value) (us:List Value),us.length=ps.length→bindArgs (PySem.W.fnOf x qual (di st) (b7 st) (aA st) .none kV doc pm an cdv ct) ⟨us,[]⟩=pure (ps.zip us)):Binds K fd ps []:=by
 obtain ⟨oc,od,kV,doc,pm,an,cdv,ct,osl,rfl,lk,hcd⟩:=F.ex
 exact .all (h kV doc pm an cdv ct)
theorem Js {x qual:Str} {st:Stmt} {f:Addr} {oc:Value} {od an:Option Addr} {osl:Array (Option Value)} {kV doc pm cdv ct:Value} (l:K.lookup f=some ⟨oc,od,.func (PySem.W.fnOf x qual (di st) (b7 st) (aA st) .none kV doc pm an cdv ct),osl⟩)
  (c:PySem.W.codeIn K cdv qual=true) (k:PySem.W.keepIn K (.ref f)=true):Fun K x qual st f (PySem.W.fnOf x qual (di st) (b7 st) (aA st) .none kV doc pm an cdv ct):=⟨⟨oc,od,kV,doc,pm,an,cdv,ct,osl,rfl,l,c⟩,k⟩
end
section
variable {X:Cx}
theorem pv (i:Nat) {x:Str} {pos:Pos} (hN:X.N[i]?=some x:=by rfl) (hv:Vis X.env.scope x:=by first|exact Or.inl rfl|exact Or.inr (Or.inl rfl)|exact Or.inr (Or.inr rfl)) (hd:(x == ("__debug__" : Str))=false:=by decide)
  (hcd:(x == ("__classdict__" : Str))=false:=by decide):PE X (.Name x pos) (J0 i):=Qb hN hv hd hcd
end
def aW (H H':Hp):Prop:= ∀b o,H b=some o→H' b=some o
theorem aW.refl (H:Hp):aW H H:=fun _ _ h=>h
theorem aW.trans {H H1 H2:Hp} (a:aW H H1) (b:aW H1 H2):aW H H2:=fun c o h=>b c o (a c o h)
theorem aW.seq {K:PySem.W.Frag} {H H':Hp} {a:Addr} {xs:List V} (e:aW H H') (h:bU K H a xs):bU K H' a xs:=by
 rcases h with (h|⟨o,h⟩)|h
 ·exact .inl (.inl (e _ _ h))
 ·exact .inl (.inr ⟨o,e _ _ h⟩)
 ·exact .inr h
section
variable {κ:Type} [DecidableEq κ]
noncomputable def iG (kvs:List (κ×V)) (k:κ):Option V:=(kvs.find? fun kv=>decide (kv.1=k)).map (·.2)
noncomputable def putK (kvs:List (κ×V)) (k:κ) (v:V):List (κ×V):=
 if (kvs.any fun kv=>decide (kv.1=k))=true then kvs.map (fun kv=>if kv.1=k then (kv.1,v) else kv) else kvs++ [(k,v)]
noncomputable def Fc (kvs:List (κ×V)) (k:κ):List (κ×V):=kvs.filter fun kv=>decide (kv.1≠k)
end
section
variable {P:Program} {w:World} {H:Hp} {h:Heap} {a:Addr}
end
section
variable {X:Cx} {pins:List (Addr×Obj)} {σ:St} {H:Hp} {s:Shared} {a:Addr} {y v:V} {u r:Value} {o:Option V} {A:Around} {E:Value→Shared→Prop}
theorem Inv.big (I:Inv X pins σ H s):sysModules<s.heap.objs.size:=by
 have h:mainGlobals<s.heap.objs.size:=(I.mod.glob.keeps I.bk).lt
 exact Nat.lt_trans (by decide) h
end
section
variable {X:Cx} {pins:List (Addr×Obj)} {σ:St} {H:Hp} {s:Shared} {a:Addr} {kvs:List (Key×V)} {k:Key} {u:Value} {A:Around} {E:Value→Shared→Prop}
end
section
variable {X:Cx} {o i e value:Expr} {pos pos' tpos:Pos} {td ty tv:TE}
end
theorem Jy {P:Program} {w:World} {H:Hp} (h:Heap) (hb:sysModules<h.objs.size):bW P w H (h.push {cls:= .type "dict",data:= .dict #[]}) h.objs.size (.dK []):=
 ⟨Nat.zero_le _,beq_eq_false_iff_ne.mpr (Ne.symm (Nat.ne_of_lt hb)),[],.nil,Heap.DictOf.new h⟩
def G1:TE:=fun _ H Q=> ∀p,H p=none→Q (.ref p) (upd H p (.dK []))
section
variable {X:Cx} {pos:Pos}
theorem sW:PE X (.Dict [] [] pos) G1:=fun pins s σ H Q I h=>
 wpAny_Dict_empty ⟨.ref s.heap.objs.size,_,I.laid (a:=s.heap.objs.size) (o:= .dK []) (t':=s.toks) (fun _ _ q=>Heap.get?_push_of_some _ q) (Nat.le_refl _) (Jy s.heap I.big),rfl,h _ (I.hok.fresh (Nat.le_refl _))⟩
end
def De:List (TE×TE)→St→Hp→(List (V×V)→Hp→Prop)→Prop
 | [],_,H,Q=>Q [] H
 |(tk,tv)::r,σ,H,Q=>tk σ H fun x H1=>tv σ H1 fun y H2=>De r σ H2 fun ps H3=>Q ((x,y)::ps) H3
noncomputable def Qo (kvs more:List (Key×V)):List (Key×V):=more.foldl (fun acc kv=>putK acc kv.1 kv.2) kvs
def R0 (trs:List (TE×TE)):TE:=fun σ H Q=> ∀p,H p=none→De trs σ (upd H p (.dK [])) fun ps H2=>H2 p=some (.dK [])∧∃kvs:List (Key×V),ps=kvs.map (fun kv=>(kV kv.1,kv.2))∧kvs.length≤15∧Q (.ref p) (upd H2 p (.dK (Qo [] kvs)))
section
variable {X:Cx} {pins:List (Addr×Obj)} {σ:St} {H:Hp} {s:Shared} {a:Addr} {y d:V} {u r:Value} {o:Option V} {A:Around} {E:Value→Shared→Prop}
end
section
variable {X:Cx} {o e f:Expr} {apos cpos:Pos} {td ty tx:TE}
end
section
variable {X:Cx} {pins:List (Addr×Obj)} {σ:St} {H:Hp} {s:Shared} {a:Addr} {kvs:List (Key×V)} {A:Around} {E:Value→Shared→Prop}
end
section
variable {X:Cx} {pins:List (Addr×Obj)} {σ:St} {H:Hp} {s:Shared} {a:Addr} {y:V} {u:Value} {A:Around} {E:Value→Shared→Prop}
end
section
variable {X:Cx}
end
section
variable {κ:Type} [DecidableEq κ]
end
def FnAt (P:Program) (w:World) (K:PySem.W.Frag) (mg:Str→Option Value) (base:Heap) (CX:pz) (x:Str) (k:Nat) (ps:List Str) (sp:Sp):Prop:=
 ∃f fd,vT P w K mg base CX k f fd ps sp∧mg x=some (.ref f)∧PySem.W.keepIn K (.ref f)=true∧Binds K fd ps []∧∃oc od osl,K.lookup f=some ⟨oc,od,.func fd,osl⟩
def b8 (K:PySem.W.Frag) (mg:Str→Option Value) (x:Str) (st:Stmt):Prop:= ∃f fd,Fun K x x st f fd∧mg x=some (.ref f)
class Quiet (CX:pz):Prop where
 pass: ∀(X:Cx),Passes CX X E0
noncomputable instance:Quiet RS:=⟨fun _=>Su⟩
theorem Jz {K:PySem.W.Frag} {h:Heap} {mg:Str→Option Value} {x:Str} {st:Stmt} {f:Addr} {oc:Value} {od an:Option Addr} {osl:Array (Option Value)} {kV doc pm cdv ct:Value} (X:K.In h) (G:h.Ns mainGlobals mg)
  (a:PySem.W.nsIn K mainGlobals x=some (some (.ref f)))
  (l:K.lookup f=some ⟨oc,od,.func (PySem.W.fnOf x x (di st) (b7 st) (aA st) .none kV doc pm an cdv ct),osl⟩) (c:PySem.W.codeIn K cdv x=true) (k:PySem.W.keepIn K (.ref f)=true):b8 K mg x st:=
 ⟨f,_,Js l c k,PySem.W.mg_of X G a⟩
section
variable {P:Program} {w:World} {K:PySem.W.Frag} {mg:Str→Option Value} {base:Heap} {CX:pz}
theorem b8.fn {x:Str} {st:Stmt} {N ps:List Str} {k:Nat} {sp:Sp} (F:b8 K mg x st) (S:aU N ps (aA st))
  (hb: ∀(kV doc pm:Value) (an:Option Addr) (cdv ct:Value) (us:List Value),us.length=ps.length→bindArgs (PySem.W.fnOf x x (di st) (b7 st) (aA st) .none kV doc pm an cdv ct) ⟨us,[]⟩=pure (ps.zip us))
  (len: ∀vs H Q E,sp vs H Q E→vs.length=ps.length)
  (
   hbody: ∀(f:Addr) (cdv:Value) (A:Around) (outer:List Env) (s:Shared) (H:Hp) (vs:List V) (Q:VK) (E:XK),cz k (A.deeper (envOfC x (aA st) s.heap.objs.size f cdv))→sp vs H Q E→
   ∃t,y_ (vL CX P w K mg base N x (aA st) f cdv A outer s H E).nox (b7 st) t∧t {nx:=fun _ H'=>Q .non H',rt:=Q} (start N vs) H):FnAt P w K mg base CX x (k+1) ps sp:=by
 obtain ⟨f,fd,F,hm⟩:=F
 have bd:=F.binds hb
 have kp:=F.kp
 obtain ⟨oc,od,kV,doc,pm,an,cdv,ct,osl,rfl,lk,hcd⟩:=F.ex
 refine ⟨f,_,E8 lk hcd S len fun A outer s H vs Q E hr hsp=>?_,hm,kp,bd,oc,od,osl,lk⟩
 obtain ⟨t,h,q⟩:=hbody f cdv A outer s H vs Q E hr hsp
 exact ⟨t,h.nox,q⟩
end
section
variable {X:Cx} {CX:pz} {k n:Nat} {ps:List Str} {sp:Sp} {x:Str} {p pos:Pos} {e:Expr} {es:List Expr} {t:TA}
theorem Ss [Quiet CX] (G:FnAt X.prog X.w X.K X.mg X.base CX x k ps sp) (hr:cz n X.A) (hk:k≤n) (hg:Gl X x) (ha:PA X (e::es) t)
  (hdb:(x == ("__debug__" : Str))=false:=by decide) (he:starEach (e::es) X.env=(false,eval e X.env)::starEach es X.env:=by rfl) (hpl:(backTo pos (starEach es X.env)).any (·.1)=false:=by rfl):
  PE X (.Call (.Name x p) (e::es) [] pos) (Cj sp [] E0 t):=by
 obtain ⟨f,fd,F,hm,kp,b,_⟩:=G
 exact ER F (hr.mono hk) hg hm kp b .nil (Quiet.pass X) ha hdb he hpl
def k7 (mg:Str→Option Value) (x:Str) (v:V):Prop:= ∃u,mg x=some u∧RelV v u
theorem cp {v:V} (hg:Gl X x) (h:k7 X.mg x v) (hd:(x == ("__debug__" : Str))=false:=by decide):PE X (.Name x pos) (tC v):=by
 obtain ⟨u,hm,r⟩:=h
 exact EN hg hm r hd
end
noncomputable def aa4 (lo c:Int) (n:Nat):It:=⟨fun i _=>i<n,fun i H x H'=>H'=H∧x = .int (lo+i*c),fun i _=>n≤i⟩
noncomputable def rcount (lo hi c:Int):Nat:=(Builtin.Range.rangeSize lo hi c).toNat
section
variable {X:Cx} {tg:Expr}
end
section
variable {g:Int→Int→V} {C:Int→Int→Prop} {i j:Int} {H:Hp} {Q:VK}
theorem Kv:Kw g (.int i) (.int j) H Q=Q (g i j) H:=by
 apply propext
 constructor
 ·
  rintro ⟨a,b,e1,e2,q⟩
  cases e1;cases e2;exact q
 ·intro q;exact ⟨i,j,rfl,rfl,q⟩
theorem PX:rI C g (.int i) (.int j) H Q=(C i j∧Q (g i j) H):=by
 apply propext
 constructor
 ·
  rintro ⟨a,b,e1,e2,q⟩
  cases e1;cases e2;exact q
 ·intro q;exact ⟨i,j,rfl,rfl,q⟩
theorem PL {f:Int→V}:rU f (.int i) H Q=Q (f i) H:=by
 apply propext
 constructor
 ·
  rintro ⟨a,e1,q⟩
  cases e1;exact q
 ·intro q;exact ⟨i,rfl,q⟩
theorem aaR {b:Bool} {P:Bool→Prop}:(∃k,V.bl b = .bl k∧P k)=P b:=by
 apply propext
 constructor
 ·
  rintro ⟨k,e,q⟩
  cases e;exact q
 ·intro q;exact ⟨b,rfl,q⟩
theorem aaP {v:V} {P:V→Prop}:(∃u,some (some v)=some (some u)∧P u)=P v:=by
 apply propext
 constructor
 ·
  rintro ⟨k,e,q⟩
  cases e;exact q
 ·intro q;exact ⟨v,rfl,q⟩
theorem Bf:P0 (.int i) (.int j) H Q=Q (.bl (decide (i=j))) H:=by
 have e:decide (V.int i=V.int j)=decide (i=j):=by
  by_cases h:i=j
  ·subst h;simp
  ·rw [decide_eq_false h,decide_eq_false (fun q=>h (V.int.inj q))]
 unfold P0
 rw [e]
 apply propext
 exact ⟨fun h=>h.2,fun h=>⟨rfl,h⟩⟩
theorem Bc:RP (.int i) (.int j) H Q=Q (.bl (!decide (i=j))) H:=by
 have e:decide (V.int i=V.int j)=decide (i=j):=by
  by_cases h:i=j
  ·subst h;simp
  ·rw [decide_eq_false h,decide_eq_false (fun q=>h (V.int.inj q))]
 unfold RP
 rw [e]
 apply propext
 exact ⟨fun h=>h.2,fun h=>⟨rfl,h⟩⟩
theorem Be {a b:Str}:P0 (.str a) (.str b) H Q=Q (.bl (decide (a=b))) H:=by
 have e:decide (V.str a=V.str b)=decide (a=b):=by
  by_cases h:a=b
  ·subst h;simp
  ·rw [decide_eq_false h,decide_eq_false (fun q=>h (V.str.inj q))]
 unfold P0
 rw [e]
 apply propext
 exact ⟨fun h=>h.2,fun h=>⟨rfl,h⟩⟩
theorem A_ {a b:Str}:RP (.str a) (.str b) H Q=Q (.bl (!decide (a=b))) H:=by
 have e:decide (V.str a=V.str b)=decide (a=b):=by
  by_cases h:a=b
  ·subst h;simp
  ·rw [decide_eq_false h,decide_eq_false (fun q=>h (V.str.inj q))]
 unfold RP
 rw [e]
 apply propext
 exact ⟨fun h=>h.2,fun h=>⟨rfl,h⟩⟩
theorem DK {a b:Bool}:P0 (.bl a) (.bl b) H Q=Q (.bl (decide (a=b))) H:=by
 have e:decide (V.bl a=V.bl b)=decide (a=b):=by
  by_cases h:a=b
  ·subst h;simp
  ·rw [decide_eq_false h,decide_eq_false (fun q=>h (V.bl.inj q))]
 unfold P0
 rw [e]
 apply propext
 exact ⟨fun h=>h.2,fun h=>⟨rfl,h⟩⟩
theorem DA {a b:Bool}:RP (.bl a) (.bl b) H Q=Q (.bl (!decide (a=b))) H:=by
 have e:decide (V.bl a=V.bl b)=decide (a=b):=by
  by_cases h:a=b
  ·subst h;simp
  ·rw [decide_eq_false h,decide_eq_false (fun q=>h (V.bl.inj q))]
 unfold RP
 rw [e]
 apply propext
 exact ⟨fun h=>h.2,fun h=>⟨rfl,h⟩⟩
end
theorem my.imp {X:Cx} {f:Value→Value→Sem Value} {r r':R2} (h:my X f r) (i: ∀x y H Q,r' x y H Q→r x y H Q):my X f r':=
 fun pins s σ H x y v u Q I rx ry q=>h pins s σ H x y v u Q I rx ry (i _ _ _ _ q)
theorem bQ.imp {X:Cx} {f:Value} {r r':List V→Hp→VK→Prop} (h:bQ X f r) (i: ∀xs H Q,r' xs H Q→r xs H Q):bQ X f r':=
 fun pins s σ H xs us Q I rs q=>h pins s σ H xs us Q I rs (i _ _ _ q)
def Ap (K:PySem.W.Frag):R2:=fun x y H Q=>match x,y with
 | .int i,.int j=>Q (.int (i+j)) H
 | .str a,.str b=>a.length+b.length≤sizeLine∧Q (.str (a++b)) H
 | .ref l,.ref b=>Sq (.ref l) (.ref b) H Q∨LP K (.ref l) (.ref b) H Q
 |_,_=>False
section
variable {X:Cx}
theorem KU:my X (binaryOp .Add) (Ap X.K):=by
 refine my.imp (Ql.or (DR.or (Qk.or KS))) fun x y H Q h=>?_
 unfold Ap at h
 split at h
 ·exact .inl ⟨_,_,rfl,rfl,h⟩
 ·exact .inr (.inl ⟨_,_,rfl,rfl,h⟩)
 ·exact .inr (.inr h)
 ·exact h.elim
end
def aa7 (i j:Int):Prop:=(0≤j∧j≤1000000)∧-(2 ^ 64)<i∧i<2 ^ 64
def vW (K:PySem.W.Frag):List V→Hp→VK→Prop:=fun xs H Q=>match xs with
 | [.str z]=>z.length≤sizeLine∧Q (.int z.length) H
 | [.ref p]=> ∃ys,(bU K H p ys∨iD K H p ys)∧Q (.int ys.length) H
 |_=>False
section
variable {X:Cx}
theorem GN:bQ X (.builtin "len") (vW X.K):=by
 refine bQ.imp (BO.or BN) fun xs H Q h=>?_
 unfold vW at h
 split at h
 ·exact .inr ⟨_,rfl,h.1,h.2⟩
 ·
  obtain ⟨ys,h1,h2⟩:=h
  exact .inl ⟨_,ys,rfl,h1,h2⟩
 ·exact h.elim
def Hl:List V→Hp→VK→Prop:=fun xs H Q=>match xs with
 | [.int i,.int j]=>Q (.int (if j<i then j else i)) H
 |_=>False
def Ho:List V→Hp→VK→Prop:=fun xs H Q=>match xs with
 | [.int i,.int j]=>Q (.int (if i<j then j else i)) H
 |_=>False
theorem GH (hc:X.calm=true):bQ X (.builtin "min") Hl:=by
 refine bQ.imp (GI hc) fun xs H Q h=>?_
 unfold Hl at h
 split at h
 ·exact ⟨_,_,rfl,h⟩
 ·exact h.elim
theorem GK (hc:X.calm=true):bQ X (.builtin "max") Ho:=by
 refine bQ.imp (GL hc) fun xs H Q h=>?_
 unfold Ho at h
 split at h
 ·exact ⟨_,_,rfl,h⟩
 ·exact h.elim
noncomputable def Z2:V→String→Option Bool
 | .int _,"int" =>some true
 | .int _,"bool" =>some false
 | .int _,"str" =>some false
 | .bl _,"int" =>some true
 | .bl _,"bool" =>some true
 | .str _,"str" =>some true
 | .str _,"int" =>some false
 |_,_=>none
def mB (K:PySem.W.Frag):List V→Hp→VK→Prop:=fun xs H Q=>match xs with
 | [x,.ty T]=>(match Z2 x T with
  |some b=>Q (.bl b) H
  |none=> ∃t b,q5 K H x t∧PySem.W.kitOne K t (.type T)=some b∧Q (.bl b) H)
 |_=>False
theorem Qy (K:PySem.W.Frag):PySem.W.kitOne K (.type "int") (.type "int")=some true:=by first|rfl|kernel_rfl
theorem Qz (K:PySem.W.Frag):PySem.W.kitOne K (.type "int") (.type "bool")=some false:=by first|rfl|kernel_rfl
theorem kit_is (K:PySem.W.Frag):PySem.W.kitOne K (.type "int") (.type "str")=some false:=by first|rfl|kernel_rfl
theorem QB (K:PySem.W.Frag):PySem.W.kitOne K (.type "bool") (.type "int")=some true:=by first|rfl|kernel_rfl
theorem QC (K:PySem.W.Frag):PySem.W.kitOne K (.type "bool") (.type "bool")=some true:=by first|rfl|kernel_rfl
theorem Qu (K:PySem.W.Frag):PySem.W.kitOne K (.type "str") (.type "str")=some true:=by first|rfl|kernel_rfl
theorem Qw (K:PySem.W.Frag):PySem.W.kitOne K (.type "str") (.type "int")=some false:=by first|rfl|kernel_rfl
theorem Qx (K:PySem.W.Frag):PySem.W.kitOne K (.type "list") (.type "list")=some true:=by first|rfl|kernel_rfl
theorem Qt (K:PySem.W.Frag):PySem.W.kitOne K (.type "tuple") (.type "tuple")=some true:=by first|rfl|kernel_rfl
theorem JF:bQ X (.builtin "isinstance") (mB X.K):=by
 intro pins s σ H xs us Q I rs q
 unfold mB at q
 split at q
 ·
  rename_i x T
  obtain ⟨u,c,rfl,ru,rc⟩:=vals2 rs
  obtain rfl:c=Value.type T:=rc
  have key: ∀{t b},q5 X.K H x t→PySem.W.kitOne X.K t (.type T)=some b→Q (.bl b) H→wpAny (model X.prog X.w) X.A (call (.builtin "isinstance") [u,.type T]) (EP X pins σ Q) X.xe s:=fun {t b} ty e h=>
   Gu I ru ty e fun tk=>⟨.bl b,H,I.tok tk,rfl,h⟩
  split at q
  ·
   rename_i b e
   have h:=q
   unfold Z2 at e
   split at e<;>cases e
   ·exact key (.int _) (Qy _) h
   ·exact key (.int _) (Qz _) h
   ·exact key (.int _) (kit_is _) h
   ·exact key (.bl _) (QB _) h
   ·exact key (.bl _) (QC _) h
   ·exact key (.str _) (Qu _) h
   ·exact key (.str _) (Qw _) h
  ·
   obtain ⟨t,b,ty,e,h⟩:=q
   exact key ty e h
 ·exact q.elim
theorem lW {x:Str} {T:String} {pos:Pos} (hg:Gl X x) (hm:X.mg x=none) (hv:bootBuiltins x=some (.type T)) (hn:x≠ "__name__" :=by decide) (hd:(x == ("__debug__" : Str))=false:=by decide):PE X (.Name x pos) (tC (.ty T)):=
 KQ hg hm hv rfl hn hd
end
theorem iA:bootBuiltins "len" = some (.builtin "len"):=by decide+kernel
theorem RG:bootBuiltins "min" = some (.builtin "min"):=by decide+kernel
theorem JI:bootBuiltins "max" = some (.builtin "max"):=by decide+kernel
theorem vM:bootBuiltins "all" = some (.builtin "all"):=by decide+kernel
theorem a8:bootBuiltins "isinstance" = some (.builtin "isinstance"):=by decide+kernel
theorem BQ:bootBuiltins "int" = some (.type "int"):=by decide+kernel
theorem tS:bootBuiltins "bool" = some (.type "bool"):=by decide+kernel
theorem Ei:bootBuiltins "str" = some (.type "str"):=by decide+kernel
theorem o4:bootBuiltins "list" = some (.type "list"):=by decide+kernel
theorem yZ:bootBuiltins "tuple" = some (.type "tuple"):=by decide+kernel
section
variable {K:PySem.W.Frag} {H:Hp} {Q:VK}
theorem F_ {i j:Int}:Ap K (.int i) (.int j) H Q=Q (.int (i+j)) H:=rfl
theorem F9 {i j:Str}:Ap K (.str i) (.str j) H Q=(i.length+j.length≤sizeLine∧Q (.str (i++j)) H):=rfl
theorem FU {z:Str}:vW K [.str z] H Q=(z.length≤sizeLine∧Q (.int z.length) H):=rfl
theorem FV {p:Addr}:vW K [.ref p] H Q=(∃ys,(bU K H p ys∨iD K H p ys)∧Q (.int ys.length) H):=rfl
theorem Kg {i:Int}:mB K [.int i,.ty "int"] H Q=Q (.bl true) H:=rfl
theorem Kh {i:Int}:mB K [.int i,.ty "bool"] H Q=Q (.bl false) H:=rfl
theorem Kf {i:Int}:mB K [.int i,.ty "str"] H Q=Q (.bl false) H:=rfl
theorem Ki {i:Bool}:mB K [.bl i,.ty "int"] H Q=Q (.bl true) H:=rfl
theorem Kj {i:Bool}:mB K [.bl i,.ty "bool"] H Q=Q (.bl true) H:=rfl
theorem Kd {i:Str}:mB K [.str i,.ty "str"] H Q=Q (.bl true) H:=rfl
theorem Ke {i:Str}:mB K [.str i,.ty "int"] H Q=Q (.bl false) H:=rfl
theorem FL {i j:Int}:Hl [.int i,.int j] H Q=Q (.int (if j<i then j else i)) H:=rfl
theorem FP {i j:Int}:Ho [.int i,.int j] H Q=Q (.int (if i<j then j else i)) H:=rfl
end
theorem RC {CX:pz} {P:Program} {w:World} {K:PySem.W.Frag} {mg:Str→Option Value} {base:Heap} {N:List Str} {qual:Str} {scope:Scope} {f:Addr} {cd:Value} {A:Around} {outer:List Env} {s:Shared} {H:Hp} {E:XK}:
  (vL CX P w K mg base N qual scope f cd A outer s H E).K=K:=rfl
section
variable {ta:TA} {tl:TE} {K:PySem.W.Frag} {g:TG} {tb:TS} {D:Ends} {σ:St} {H:Hp}
end
theorem law_fin {P:Program} {w:World} {K:PySem.W.Frag} {mg:Str→Option Value} {CX:pz} {k:Nat} {fa:Addr} {x nm:Str} {st:Stmt} {sp:Sp} (hmg:mg nm=some (.ref fa)) (D:b8 K mg nm st)
  (hb: ∀(kV doc pm:Value) (an:Option Addr) (cdv ct:Value) (us:List Value),us.length=([x]:List Str).length→bindArgs (PySem.W.fnOf nm nm (di st) (b7 st) (aA st) .none kV doc pm an cdv ct) ⟨us,[]⟩=pure (([x]:List Str).zip us))
  (ok: ∀base:Heap,FnAt P w K mg base CX nm k [x] sp):
  ∃fd:FuncData,(∀(s:Shared) (u:Value),BindsTo s fd ⟨[u],[]⟩ [(x,u)])∧∀base:Heap,K.In base→base.Ns mainGlobals mg→vT P w K mg base CX k fa fd [x] sp:=by
 obtain ⟨f,fd,F,hm⟩:=D
 rw [hmg] at hm
 cases hm
 obtain ⟨oc,od,kV,doc,pm,an,cdv,ct,osl,e,lk,hcd⟩:=F.ex
 refine ⟨fd,fun s u=>?_,fun base _ _=>?_⟩
 ·
  rw [e]
  exact .of_eq (hb kV doc pm an cdv ct [u] rfl)
 ·
  obtain ⟨f',fd',h,hm',_,_,oc',od',osl',lk'⟩:=ok base
  rw [hmg] at hm'
  cases hm'
  rw [lk] at lk'
  cases lk'
  exact h
def Al (K:PySem.W.Frag):Sp:=fun vs H Q _=>match vs with
 | [.ref a]=> ∃ns:List Int,bU K H a (ns.map V.int)∧ns.length≤63∧JN H∧∀H',Q (.bl true) H'
 |_=>False
theorem Ip {l:PySem.W.OpenLaw} {k:Nat} {q:Program} {loose:List Str} {XP:(Str→Option Value)→Heap→Prop} {YP:World→Heap→Prop} {d:DefRec} {K:Params→PySem.W.Frag} {x:Str} (hn:l.most=some 63) (hdf:d.params.defaults= [])
  (hr:cz k callerA) (hY: ∀(w:World) (h:Heap),YP w h→(K w.params).In h)
  (
   F: ∀(w:World) (mg:Str→Option Value) (fa:Addr) (h:Heap),(K w.params).In h→h.Ns mainGlobals mg→mg d.name=some (.ref fa)→
   ∃fd:FuncData,(∀(s:Shared) (u:Value),BindsTo s fd ⟨[u],[]⟩ [(x,u)])∧∀base:Heap,(K w.params).In base→base.Ns mainGlobals mg→vT l.prog w (K w.params) mg base RS k fa fd [x] (Al (K w.params))):
  PySem.W.WalkO q loose XP YP l.row.toRowW d [] (fun f vs=>PySem.call f vs):=
 L2.GU (n:=63) (CX:=RS) (sp:=Al) hn (by decide) hdf hr hY F (fun K H a ns hl hO hS=>⟨ns,hS,hl,hO,fun _=>rfl⟩) fun _ _ _ _ z=>z
noncomputable def Cx.comp (X:Cx) (scope:Scope) (cl:List (Str×Addr)) (C:Addr) (N:List Str) (s:Shared) (H:Hp) (ex:List Addr):Cx:=
 {prog:=X.prog,w:=X.w,K:=X.K,mg:=X.mg,base:=X.base,A:=X.A,N:=N,s₀:=s,H₀:=H,env:=compEnvC scope cl C X.env,outer:=X.stack,stack:=X.stack,ex:=ex,fn:=fun _=>false,calm:=X.calm,pn:=[],xe:=fun _ _=>False}
theorem Eg {env:Env} {scope:Scope} (h: ∀y∈scope.names,y.2 = .free→∃c,env.cells.lookup y.1=some c):
  ∃cl,closureFor scope env=pure cl∧(∀y c,cl.lookup y=some c→env.cells.lookup y=some c)∧∀y∈scope.names,y.2 = .free→∃c,cl.lookup y.1=some c:=by
 have key: ∀(l:List (Str×NameKind)) (acc:List (Str×Addr)),(∀y∈l,y.2 = .free→∃c,env.cells.lookup y.1=some c)→(∀y c,acc.lookup y=some c→env.cells.lookup y=some c)→
   ∃cl,(forIn l acc fun (x:Str×NameKind) (cs:List (Str×Addr))=>if (x.2 == NameKind.free)=true then do let a←cellOf env x.1;pure (ForInStep.yield ((x.1,a)::cs)) else pure (ForInStep.yield cs))=(pure cl:Sem (List (Str×Addr)))∧
    (∀y c,cl.lookup y=some c→env.cells.lookup y=some c)∧(∀y c,acc.lookup y=some c→∃c,cl.lookup y=some c)∧∀y∈l,y.2 = .free→∃c,cl.lookup y.1=some c:=by
  intro l
  induction l with
  |nil=>intro acc _ ha;exact ⟨acc,rfl,ha,fun y c e=>⟨c,e⟩,fun y hy=>nomatch hy⟩
  |cons x r ih=>
   intro acc hl ha
   obtain ⟨n,k⟩:=x
   by_cases hk:k = .free
   ·
    subst hk
    obtain ⟨c,hc⟩:=hl (n,.free) List.mem_cons_self rfl
    have ha': ∀y d,((n,c)::acc).lookup y=some d→env.cells.lookup y=some d:=fun y d e=>by
     simp only [List.lookup_cons] at e
     cases q:y == n with
     |true=>rw [q] at e;cases e;rw [beq_iff_eq.mp q];exact hc
     |false=>rw [q] at e;exact ha y d e
    obtain ⟨cl,e,h1,h2,h3⟩:=ih ((n,c)::acc) (fun y hy=>hl y (List.mem_cons_of_mem _ hy)) ha'
    have top: ∃d,cl.lookup n=some d:=h2 n c (by simp [List.lookup_cons])
    refine ⟨cl,?_,h1,fun y d q=>?_,fun y hy hf=>?_⟩
    ·
     rw [List.forIn_cons]
     have ec:cellOf env n=pure c:=by unfold cellOf;rw [hc]
     show ((if (NameKind.free == NameKind.free)=true then (do let a←cellOf env n;pure (ForInStep.yield ((n,a)::acc))) else _) >>= _)=_
     rw [if_pos (by decide),ec]
     exact e
    ·
     cases z:y == n with
     |true=>rw [beq_iff_eq.mp z];exact top
     |false=>exact h2 y d (by simp only [List.lookup_cons,z];exact q)
    ·
     rcases List.mem_cons.mp hy with rfl|hy
     ·exact top
     ·exact h3 y hy hf
   ·
    have hb:(k == NameKind.free)=false:=by simpa using hk
    obtain ⟨cl,e,h1,h2,h3⟩:=ih acc (fun y hy=>hl y (List.mem_cons_of_mem _ hy)) ha
    refine ⟨cl,?_,h1,h2,fun y hy hf=>?_⟩
    ·
     rw [List.forIn_cons]
     show ((if (k == NameKind.free)=true then _ else pure (ForInStep.yield acc)) >>= _)=_
     rw [hb,if_neg Bool.false_ne_true]
     exact e
    ·
     rcases List.mem_cons.mp hy with rfl|hy
     ·exact absurd hf hk
     ·exact h3 y hy hf
 obtain ⟨cl,e,h1,_,h3⟩:=key scope.names [] h (fun y c q=>by simp at q)
 refine ⟨cl,?_,h1,h3⟩
 unfold closureFor
 exact (bind_congr (fun _=>rfl)).trans (by rw [e];rfl)
theorem oq {scope:Scope} {env:Env} {x:Str} {k:NameKind} (h:(relabel scope env).names.lookup x=some k):scope.names.lookup x=some k∨(scope.names.lookup x=some .free∧k = .cell):=by
 unfold relabel at h
 have key: ∀l:List (Str×NameKind),(l.map fun (n,k)=>if (k == NameKind.free&&env.scope.kind == .function&&env.kindOf n == some .cell) then (n,NameKind.cell) else (n,k)).lookup x=some k→l.lookup x=some k∨(l.lookup x=some .free∧k = .cell):=by
  intro l
  induction l with
  |nil=>intro h;simp at h
  |cons y r ih=>
   obtain ⟨n,j⟩:=y
   intro h
   rw [List.map_cons] at h
   simp only [List.lookup_cons]
   cases q:x == n with
   |true=>
    by_cases hc:(j == NameKind.free&&env.scope.kind == .function&&env.kindOf n == some .cell)=true
    ·
     simp only [hc,if_true,List.lookup_cons,q] at h
     cases h
     have:j = .free:=by
      simp only [Bool.and_eq_true,beq_iff_eq] at hc
      exact hc.1.1
     subst this
     exact .inr ⟨rfl,rfl⟩
    ·
     have hc':(j == NameKind.free&&env.scope.kind == .function&&env.kindOf n == some .cell)=false:=by simpa using hc
     simp only [hc',Bool.false_eq_true,if_false,List.lookup_cons,q] at h
     exact .inl h
   |false=>
    by_cases hc:(j == NameKind.free&&env.scope.kind == .function&&env.kindOf n == some .cell)=true
    ·
     simp only [hc,if_true,List.lookup_cons,q] at h
     exact ih h
    ·
     have hc':(j == NameKind.free&&env.scope.kind == .function&&env.kindOf n == some .cell)=false:=by simpa using hc
     simp only [hc',Bool.false_eq_true,if_false,List.lookup_cons,q] at h
     exact ih h
 exact key _ h
theorem EY {h:Heap} {b n:Addr} {o:Obj} (e:h.get? b=some o) (hn:h.objs.size≤n):b≠n:=Nat.ne_of_lt (Nat.lt_of_lt_of_le (Heap.lt_size e) hn)
structure y8 (X:Cx) (scope:Scope) (N:List Str) (nv:Nat) (ix:List Nat):Prop where
 kind:scope.kind = .function
 nocell: ∀y∈scope.names,y.2≠ .cell
 names: ∀y∈scope.names,y.2 = .local→scope.names.lookup y.1=some .local
 fre: ∀y∈scope.names,y.2 = .free→X.env.kindOf y.1=some .cell∨X.env.kindOf y.1=some .free
 len:N.length=nv+ix.length
 at_: ∀j y,N[nv+j]?=some y→∃i,ix[j]?=some i∧X.N[i]?=some y∧(X.env.kindOf y=some .cell∨X.env.kindOf y=some .free)∧scope.names.lookup y=some .free
noncomputable def c6 (nv:Nat) (ix:List Nat) (σ:St):St:=List.replicate nv none++ix.map fun i=>(σ[i]?).join
section
variable {X:Cx} {pins:List (Addr×Obj)} {σ:St} {H:Hp} {s:Shared} {scope:Scope} {N:List Str} {nv:Nat} {ix:List Nat}
theorem Eb {h1:Heap} {tk:Nat} {cl:List (Str×Addr)} {fp:List Addr} {C D:Addr} {oD:Obj} (S:y8 X scope N nv ix) (I:Inv X pins σ H s) (hcl: ∀y c,cl.lookup y=some c→X.env.cells.lookup y=some c)
  (hcl2: ∀y∈scope.names,y.2 = .free→∃c,cl.lookup y.1=some c) (hfp: ∀b∈fp,xH X pins H b) (hob: ∀b∈fp,b<s.heap.objs.size)
  (hC:s.heap.objs.size≤C) (hD:s.heap.objs.size≤D) (hDC:D≠C) (old: ∀b o,s.heap.get? b=some o→h1.get? b=some o) {m:Str→Option Value} (hm:h1.Ns C m) (hoD:h1.get? D=some oD) (hdat: ∀v,oD.data≠ .cell v):
  Inv (X.comp scope cl C N s H fp) [(D,oD)] (c6 nv ix σ) H {s with heap:=h1,toks:=tk}:=by
 refine ⟨⟨I.ok.mod,S.kind,I.ok.glob,I.ok.blt,hC,fun x y c e1 e2=>I.ok.inj x y c (hcl x c e1) (hcl y c e2),fun x hx=>?_,fun _ _ z=>absurd z Bool.false_ne_true,I.ok.hd,I.ok.frames,.inl rfl,fun b hb=>⟨fun z=>?_,fun x c e=>(hfp b hb).2.2.2.2.1 x c (hcl x c e)⟩,I.bs,
  Nat.le_trans I.ok.bsz I.sz,fun b o e hb=>?_,fun b hb z=>?_,I.stack,I.sN⟩,rfl,I.bare,Un.kept old,⟨m,hm,fun i x v e1 e2 e3=>?_⟩,fun x c e=>?_,I.hok.fresh hC,fun x c e=>I.kY x c (hcl x c e),fun p hp=>?_,I.hok.kept old,?_⟩
 ·
  have hx':(relabel scope X.env).names.lookup x=some .cell∨(relabel scope X.env).names.lookup x=some .free:=hx
  have fr:scope.names.lookup x=some .free:=by
   rcases hx' with z|z
   ·
    rcases oq z with q|q
    ·exact absurd rfl (S.nocell _ (PySem.mem_of_lookup q))
    ·exact q.1
   ·
    rcases oq z with q|q
    ·exact q
    ·cases q.2
  exact hcl2 (x,.free) (PySem.mem_of_lookup fr) rfl
 ·exact Nat.ne_of_lt (Nat.lt_of_lt_of_le (hob b hb) hC) z
 ·
  rcases (hfp b hb).2.2.2.1 with z|z
  ·exact I.ok.noex b o e z
  ·exact EY e (Nat.le_trans I.ok.bsz z) rfl
 ·
  rcases List.mem_cons.mp (I.xW b z) with q|q
  ·exact (hfp b hb).2.1 q
  ·exact (hfp b hb).2.2.1 q
 ·
  have e1':N[i]?=some x:=e1
  by_cases hi:i<nv
  ·
   have e2':(c6 nv ix σ)[i]?=some (some v):=e2
   unfold c6 at e2'
   rw [List.getElem?_append_left (by simpa using hi),List.getElem?_replicate,if_pos hi] at e2'
   cases e2'
  ·
   obtain ⟨j,rfl⟩: ∃j,i=nv+j:=⟨i - nv,by omega⟩
   obtain ⟨k,hk,hN,hkd,hsc⟩:=S.at_ j x e1'
   have e2':(c6 nv ix σ)[nv+j]?=some (some v):=e2
   unfold c6 at e2'
   rw [List.getElem?_append_right (by simp),List.length_replicate,Nat.add_sub_cancel_left,List.getElem?_map,hk] at e2'
   have e4:σ[k]?=some (some v):=by
    have e5:(σ[k]?).join=some v:=by simpa using e2'
    cases q:σ[k]? with
    |none=>rw [q] at e5;cases e5
    |some z=>rw [q] at e5;have:z=some v:=e5;rw [this]
   obtain ⟨m0,_,hl⟩:=I.loc
   have vis:Vis X.env.scope x:=by
    rcases hkd with z|z
    ·exact .inr (.inl z)
    ·exact .inr (.inr z)
   obtain ⟨u,r,l⟩:=hl k x v hN e4 vis
   refine ⟨u,r,?_⟩
   rcases l with ⟨z,_⟩|⟨_,c,hc,hcell⟩
   ·rcases hkd with q|q<;>rw [q] at z<;>cases z
   ·
    obtain ⟨c',hc'⟩:=hcl2 (x,.free) (PySem.mem_of_lookup hsc) rfl
    have:=hcl x c' hc'
    rw [hc] at this
    cases this
    refine .inr ⟨?_,c,hc',hcell.keeps old⟩
    rcases e3 with z|z|z
    ·
     rcases oq z with q|q
     ·rw [hsc] at q;cases q
     ·cases q.2
    ·exact .inl z
    ·exact .inr z
 ·
  obtain ⟨v,q⟩:=I.cell x c (hcl x c e)
  exact ⟨v,q.keeps old⟩
 ·
  have hp':p∈[(D,oD)]:=hp
  have e:p=(D,oD):=by simpa using hp'
  subst e
  refine ⟨hoD,I.hok.fresh hD,hDC,fun z=>?_,hdat⟩
  rcases List.mem_cons.mp (I.xW D z) with q|q
  ·exact Nat.ne_of_gt (Nat.lt_of_lt_of_le I.lt hD) q
  ·exact I.nofs hD q
 ·
  show (c6 nv ix σ).length=N.length
  unfold c6
  rw [List.length_append,List.length_replicate,List.length_map,S.len]
theorem JC {cl:List (Str×Addr)} {fp:List Addr} {C D:Addr} {its:List Value} {ys:List V} {n:Nat} {σ':St} {H':Hp} {s':Shared} (I:Inv X pins σ H s) (hfp: ∀b∈fp,xH X pins H b) (hD:s.heap.objs.size≤D)
  (J:Inv (X.comp scope cl C N s H fp) [(D,{cls:= .type "list",data:= .seq its.toArray n})] σ' H' s') (r:Vals ys its) (hl:ys.length≤sizeLine):Inv X pins σ (upd H' D (.lst ys)) s':=by
 obtain ⟨eD,fD,_⟩:=J.pin (D,{cls:= .type "list",data:= .seq its.toArray n}) (by simp [Cx.comp])
 have U:Un (frs X.stack) fp H H' s.heap s'.heap:=J.base
 have neD: ∀b o,s.heap.get? b=some o→b≠D:=fun b o e=>EY e hD
 refine I.call' (ch:=fp) J.os ⟨U.keep,U.slot,fun b o e n hx=>?_,U.there,fun b xs e=>?_,fun b o xs e=>?_,fun b ps e=>?_⟩ (fun b u e=>?_) J.bare fun b hb=>(hfp b hb).2.2.2 |> fun z=>⟨z.1,(hfp b hb).2.1,z.2.1,z.2.2⟩
 ·rw [ak (neD b o e)];exact U.free b o e n hx
 ·
  have q:=U.tups b xs e
  rw [ak (av q fD)];exact q
 ·
  have q:=U.frzs b o xs e
  rw [ak (av q fD)];exact q
 ·
  obtain ⟨more,q⟩:=U.tbls b ps e
  exact ⟨more,by rw [ak (av q fD)];exact q⟩
 ·
  by_cases hb:b=D
  ·
   subst hb
   rw [aa] at e
   cases e
   exact ⟨hl,its,n,r,eD⟩
  ·
   rw [ak hb] at e
   exact (J.hok b u e).stay (fun c v _ q=>q) (fun c q=>by rw [ak (av q fD)];exact q) fun c xs q=>by rw [ak (av q fD)];exact q
end
section
variable {prog:Program} {w:World} {A:Around} {E:Value→Shared→Prop} {R:Result→Shared→Prop} {s:Shared}
theorem BL {elt target iter:Expr} {ifs:List Expr} {scope:Scope} {pos:Pos} {it acc:Value} {env:Env} (I:Nat→Shared→Prop)
  (
   turn: ∀n s,I n s→wpAny (model prog w) A (pyNext it) (fun r s₁=>match r with
   |none=>R (.ok .next) s₁
   |
     some v=>wpAny (model prog w) A (letOwnedTupleGo target it v) (fun _ s₀=>wpAny (model prog w) A (assign target env v) (fun _ s₂=>
     wpAny (model prog w) A (forIn ifs true fun c r=>if r=true then do let ok←isTrue c env (eval c env);pure (ForInStep.yield ok) else pure (ForInStep.yield r)) (fun ok s₃=>
      if ok=true then wpAny (model prog w) A (eval elt env) (fun x s₄=>
       wpAny (model prog w) A (call (.builtin "list.append") [acc,x]) (fun _ s₅=> ∃m,m<n∧I m s₅) (fun _ _=>False) s₄) (fun _ _=>False) s₃
      else∃m,m<n∧I m s₃) (fun _ _=>False) s₂) (fun _ _=>False) s₀) (fun _ _=>False) s₁) (fun _ _=>False) s)
  (n:Nat) (h:I n s):
  codeAny (model prog w) A (.compLoop (.ListComp elt [⟨target,iter,ifs,0⟩] scope pos) 0 it acc env) R s:=by
 refine codeAny_loop rfl I (fun n s hI=>?_) n h
 show wpAny _ A ((compTurn (.ListComp elt [⟨target,iter,ifs,0⟩] scope pos) 0 it acc env).onRaise (fun x=>do noteFrame x env;theTreesLotGoes x)) _ _ s
 refine wpAny_noted ?_
 rw [compTurn_list]
 refine wpAny_bind (wpAny_standAt (wpAny_bind (wpAny_mono (turn n s hI) (fun r s₁ h₁=>?_) fun _ _ h'=>h'.elim)))
 cases r with
 |none=>exact wpAny_pure h₁
 |some v=>
  refine wpAny_bind (wpAny_mono h₁ (fun _ s₀ h₀=>?_) fun _ _ h'=>h'.elim)
  refine wpAny_bind (wpAny_mono h₀ (fun _ s₂ h₂=>wpAny_bind (wpAny_mono h₂ (fun ok s₃ h₃=>?_) fun _ _ h'=>h'.elim)) fun _ _ h'=>h'.elim)
  cases ok with
  |false=>exact wpAny_pure ⟨rfl,h₃⟩
  |true=>
   exact wpAny_bind (wpAny_bind (wpAny_mono h₃ (fun x s₄ h₄=>wpAny_bind (wpAny_mono h₄ (fun _ s₅ h₅=>wpAny_pure (wpAny_pure ⟨rfl,h₅⟩)) fun _ _ h'=>h'.elim)) fun _ _ h'=>h'.elim))
end
def Pj:TT:=fun _ H Q=>Q true H
def j6 (J:It) (g:TG) (tt:TT) (te:TE) (σ₀:St) (H1:Hp) (Q:List V→Hp→Prop):Prop:=
 ∃W:Nat→Nat→List V→St→Hp→Prop,(∃m,W 0 m [] σ₀ H1)∧∀i m ys σ' H',W i m ys σ' H'→
  (
   J.stop i H'∧Q ys H')∨(J.go i H'∧ys.length<sizeLine∧∃N:List V→St→Hp→Prop,(∀ys' σ'' H'',N ys' σ'' H''→∃m',m'<m∧W (i+1) m' ys' σ'' H'')∧
   ∀x H'',J.yld i H' x H''→g x σ' H'' fun σ2 H2=>tt σ2 H2 fun b H3=>if b=true then te σ2 H3 fun y H4=>N (ys++ [y]) σ2 H4 else N ys σ2 H3)
def vV (nv:Nat) (ix:List Nat) (wi:TI) (g:TG) (tt:TT) (te:TE):TE:=fun σ H Q=>wi σ H fun J H1=>j6 J g tt te (c6 nv ix σ) H1 fun ys H'=>ys.length≤sizeLine∧∀D,H' D=none→Q (.ref D) (upd H' D (.lst ys))
section
variable {X:Cx} {tg elt iter:Expr} {ifs:List Expr} {scope:Scope} {N:List Str} {nv:Nat} {ix:List Nat} {pos spos:Pos} {wi:TI} {g:TG} {tt:TT} {te:TE}
def PTs (X:Cx) (ifs:List Expr) (tt:TT):Prop:=
 ∀(pins:List (Addr×Obj)) (s:Shared) (σ:St) (H:Hp) (Q:Bool→Hp→Prop),Inv X pins σ H s→tt σ H Q→
  wpAny (model X.prog X.w) X.A (forIn ifs true fun c r=>if r=true then do let ok←isTrue c X.env (eval c X.env);pure (ForInStep.yield ok) else pure (ForInStep.yield r)) (TP X pins σ Q) X.xe s
theorem cg:PTs X [] Pj:=fun _ _ _ H _ I h=>wpAny_tests_nil ⟨H,I,h⟩
theorem AD {use:Option (Value→Sem Unit)} {Qv:Value→Shared→Prop} {pins:List (Addr×Obj)} {s:Shared} {σ:St} {H:Hp} {Q:List V→Hp→Prop} (hc:X.calm=true) (S:y8 X scope N nv ix) (hi:PI X tg iter wi)
  (hg: ∀cl C s H ex,PG (X.comp scope cl C N s H ex) tg g) (ht: ∀cl C s H ex,PTs (X.comp scope cl C N s H ex) ifs tt) (he: ∀cl C s H ex,PE (X.comp scope cl C N s H ex) elt te) (I:Inv X pins σ H s)
  (h:wi σ H fun J H1=>j6 J g tt te (c6 nv ix σ) H1 fun ys H'=>ys.length≤sizeLine∧Q ys H')
  (fin: ∀ys D C H' s' (s2:Shared) (σ2:St),Q ys H'→H' D=none→D≠C→Inv X pins σ (upd H' D (.lst ys)) s'→(∃m,s'.heap.Ns C m)→(∀H'',H'' C=none→xH X pins H'' C)→H' C=none→compPost (model X.prog X.w) X.A X.xe use Qv (.ref D) C (.ok .next) s')
  (hs: ∀x,foldedSetIterable iter X.env x=pure x):
  wpAny (model X.prog X.w) X.A (comprehension (.ListComp elt [⟨tg,iter,ifs,0⟩] scope pos) scope X.env (firstIterPos [⟨tg,iter,ifs,0⟩] pos) (newList []) false (eval iter X.env) use) Qv X.xe s:=by
 obtain ⟨cl,hclos,hcl,hcl2⟩:=Eg (env:=X.env) (scope:=scope) fun y hy hf=>I.ok.has y.1 (S.fre y hy hf)
 refine wpAny_comprehension_free (use:=use) rfl hs hclos S.kind S.names (thn (hi pins s σ H _ I h) fun v s1 h1=>thn h1 fun itv s2 h2=>?_)
 obtain ⟨it,fp,tn,J,H2,e,I2,T,st2,f2,W,⟨m0,w0⟩,turn⟩:=h2
 subst e
 refine wpAny_newObj_type (wpAny_newFunctionEnv S.nocell (by intro y hy;simp at hy) (fun h₁ hns₁ hsb₁=>?_) S.kind)
 dsimp only at hns₁ hsb₁⊢
 generalize hH2:s2.heap.push {cls:= .type "list",dict:=none,data:= .seq ([]:List Value).toArray}=G2 at hns₁ hsb₁⊢
 have hC:G2.objs.size=s2.heap.objs.size+1:=by rw [←hH2,Heap.size_push]
 have hDC:s2.heap.objs.size≠G2.objs.size:=by rw [hC];exact Nat.ne_of_lt (Nat.lt_succ_self _)
 have old: ∀b o,s2.heap.get? b=some o→h₁.get? b=some o:=fun b o e=>hsb₁.extBut b o (EY e (by rw [hC];exact Nat.le_succ _)) (Heap.get?_push_of_some _ (hH2▸Heap.get?_push_of_some _ e))
 have hacc:h₁.get? s2.heap.objs.size=some {cls:= .type "list",data:= .seq ([]:List Value).toArray 0}:=hsb₁.extBut _ _ hDC (Heap.get?_push_of_some _ (hH2▸Heap.get?_push_size _ rfl))
 have hob: ∀b∈fp,b<s2.heap.objs.size:=fun b hb=>by
  obtain ⟨o,e,_⟩:=T.obj _ _ st2 b hb
  exact Heap.lt_size e
 have hCle:s2.heap.objs.size≤G2.objs.size:=by rw [hC];exact Nat.le_succ _
 have I4: ∀tk,Inv (X.comp scope cl G2.objs.size N s2 H2 fp) [(s2.heap.objs.size,{cls:= .type "list",data:= .seq ([]:List Value).toArray 0})] (c6 nv ix σ) H2 {s2 with heap:=h₁,toks:=tk}:=fun tk=>
  Eb S I2 hcl hcl2 f2 hob hCle (Nat.le_refl _) hDC old hns₁ hacc (fun v z=>by cases z)
 have hst₁:tn 0 h₁:=T.keep _ _ _ st2 fun b _ o e=>old b o e
 have stat: ∀{H':Hp} {pns:List (Addr×Obj)},(∀p∈pns,p.1=s2.heap.objs.size)→(∀b∈fp,H' b=none)→∀b∈fp,xH (X.comp scope cl G2.objs.size N s2 H2 fp) pns H' b:=fun {H' pns} hp hn b hb=>by
  obtain ⟨f0,f1,f3,f4,f5,f6⟩:=f2 b hb
  have hlt:=hob b hb
  refine ⟨hn b hb,fun z=>?_,fun z=>?_,.inl hb,fun x c e=>f5 x c (hcl x c e),fun p hp' z=>?_⟩
  ·exact Nat.ne_of_lt (Nat.lt_of_lt_of_le hlt hCle) z
  ·
   rcases List.mem_cons.mp (I2.xW b z) with q|q
   ·exact f1 q
   ·exact f3 q
  ·
   have hp'':p∈pns:=by simpa [Cx.comp] using hp'
   exact Nat.ne_of_gt (by rw [hp p hp''];exact hlt) z
 have loop: ∀s₃:Shared,s₃={s2 with heap:=h₁,toks:=s2.toks+([]:List (Str×Value)).length}→
   codeAny (model X.prog X.w) X.A (.compLoop (.ListComp elt [⟨tg,iter,ifs,0⟩] scope pos) 0 (.ref it) (.ref s2.heap.objs.size) (compEnvC scope cl G2.objs.size X.env))
    (compPost (model X.prog X.w) X.A X.xe use Qv (.ref s2.heap.objs.size) G2.objs.size) s₃:=by
  rintro s₃ rfl
  refine BL (fun n s'=> ∃i ys its σ' H',Inv (X.comp scope cl G2.objs.size N s2 H2 fp) [(s2.heap.objs.size,{cls:= .type "list",data:= .seq its.toArray its.length})] σ' H' s'∧tn i s'.heap∧(∀b∈fp,H' b=none)∧Vals ys its∧W i n ys σ' H') ?_ m0
   ⟨0,[],[],_,H2,I4 _,hst₁,fun b hb=>(f2 b hb).1,.nil,w0⟩
  rintro n s' ⟨i,ys,its,σ',H',I',st',fr',rv,w'⟩
  have pin1: ∀{o:Obj},∀p∈[(s2.heap.objs.size,o)],p.1=s2.heap.objs.size:=fun {o} p hp=>by
   exact congrArg Prod.fst (List.mem_singleton.mp hp)
  rcases turn i n ys σ' H' w' with ⟨stop,hl,qn⟩|⟨go,hlen,Nx,hN,step⟩
  ·
   refine thn (T.done (X.comp scope cl G2.objs.size N s2 H2 fp) rfl rfl rfl hc i _ s' σ' H' (fun _ _=>False) I' (stat pin1 fr') st' stop) fun r s4 ⟨hr,I5⟩=>?_
   subst hr
   obtain ⟨m5,hm5,_⟩:=I5.loc
   have fD:=(I5.pin (s2.heap.objs.size,{cls:= .type "list",data:= .seq its.toArray its.length}) (List.mem_append_right _ (by simp))).2.1
   exact fin ys _ _ H' s4 s2 σ' qn fD hDC (JC I2 f2 (Nat.le_refl _) I5 rv hl) ⟨m5,hm5⟩ (fun H'' hn=>I2.CL hCle hn) I5.free
  ·
   refine thn (T.item (X.comp scope cl G2.objs.size N s2 H2 fp) rfl rfl rfl hc i _ s' σ' H' (fun _ _=>False) I' (stat pin1 fr') st' go) fun r s4 ⟨u,hr,h4⟩=>?_
   subst hr
   refine thn h4 fun _ s5 ⟨x,H5,I5,r5,y5,st5,fr5⟩=>?_
   have I5':=I5.pinned (stat pin1 fr5) (T.obj _ _ st5)
   refine thn (hg _ _ _ _ _ _ s5 σ' H5 x u _ I5' r5 (step x H5 y5)) fun _ s6 ⟨σ6,H6,I6,q6⟩=>?_
   refine thn (ht _ _ _ _ _ _ s6 σ6 H6 _ I6 q6) fun b s7 ⟨H7,I7,q7⟩=>?_
   have back: ∀{σ8:St} {H8:Hp} {s8:Shared},Inv (X.comp scope cl G2.objs.size N s2 H2 fp) ([(s2.heap.objs.size,{cls:= .type "list",data:= .seq its.toArray its.length})]++yf fp s5.heap) σ8 H8 s8→tn (i+1) s8.heap∧∀b∈fp,H8 b=none:=fun {σ8 H8 s8} J=>
    ⟨
     T.keep _ _ _ st5 fun b hb o e=>(J.pin (b,o) (List.mem_append_right _ (List.mem_append_right _ (oK hb e)))).1,fun b hb=>by
     obtain ⟨o,e,d⟩:=T.obj _ _ st5 b hb
     exact (J.pin (b,o) (List.mem_append_right _ (List.mem_append_right _ (oK hb e)))).2.1⟩
   cases b with
   |false=>
    rw [if_neg Bool.false_ne_true] at q7
    obtain ⟨m',hm,w7⟩:=hN _ _ _ q7
    exact ⟨m',hm,i+1,ys,its,σ6,H7,I7.unpinned,(back I7).1,(back I7).2,rv,w7⟩
   |true=>
    rw [if_pos rfl] at q7
    refine thn (he _ _ _ _ _ _ s7 σ6 H7 _ I7 q7) fun y s8 ⟨yv,H8,I8,r8,q8⟩=>?_
    obtain ⟨eD,fD,nD,nfD,dD⟩:=I8.pin (s2.heap.objs.size,{cls:= .type "list",data:= .seq its.toArray its.length}) (List.mem_append_right _ (by simp))
    refine append_at (hsz:=by rw [List.size_toArray,←rv.length];exact Nat.le_of_lt hlen) eD fun h₅ hs₅ hD₅=>?_
    obtain ⟨m',hm,w8⟩:=hN _ _ _ q8
    have fpD:s2.heap.objs.size ∉ fp:=fun z=>Nat.lt_irrefl _ (hob _ z)
    have I9:Inv (X.comp scope cl G2.objs.size N s2 H2 fp) [] σ6 H8 s8:=I8.xK fun p hp=>absurd hp (by simp)
    have fk:=I2.CL (H':=H8) (Nat.le_refl _) fD
    have I10:Inv (X.comp scope cl G2.objs.size N s2 H2 fp) [] σ6 H8 {s8 with heap:=h₅,toks:=s8.toks}:=
     I9.turned (it:=s2.heap.objs.size) (fun b o hb e=>hs₅.extBut b o hb e) fD nD (.inr (Nat.le_refl _)) (fun x c e=>fk.2.2.2.2.1 x c (hcl x c e)) (fun p hp=>absurd hp (by simp [Cx.comp]))
    refine ⟨m',hm,i+1,ys++ [yv],its++ [y],σ6,H8,I10.xK fun p hp=>?_,?_,(back I8).2,rv.append (.cons r8 .nil),w8⟩
    ·
     have e:p=(s2.heap.objs.size,{cls:= .type "list",data:= .seq (its++ [y]).toArray (its++ [y]).length}):=by simpa using hp
     subst e
     refine ⟨?_,fD,nD,nfD,fun v z=>by cases z⟩
     show h₅.get? s2.heap.objs.size=_
     rw [hD₅,List.push_toArray,List.length_append,List.length_singleton]
    ·exact T.keep _ _ _ (back I8).1 fun b hb o e=>hs₅.extBut b o (fun z=>fpD (by have z':b=s2.heap.objs.size:=z;rw [←z'];exact hb)) e
 exact codeAny_compStart_list (loop _ rfl) (T.self _ 0 _ _ _ hst₁ (loop _ rfl))
theorem cx (hc:X.calm=true) (S:y8 X scope N nv ix) (hi:PI X tg iter wi)
  (hg: ∀cl C s H ex,PG (X.comp scope cl C N s H ex) tg g) (ht: ∀cl C s H ex,PTs (X.comp scope cl C N s H ex) ifs tt) (he: ∀cl C s H ex,PE (X.comp scope cl C N s H ex) elt te)
  (hs: ∀x,foldedSetIterable iter X.env x=pure x:=by intro _;rfl):PE X (.ListComp elt [⟨tg,iter,ifs,0⟩] scope pos) (vV nv ix wi g tt te):=by
 intro pins s σ H Q I h
 rw [eval_ListComp]
 refine AD (Q:=fun ys H'=> ∀D,H' D=none→Q (.ref D) (upd H' D (.lst ys))) (use:=none) hc S hi hg ht he I ?_ (fun ys D C H' s' s2 σ2 q fD hDC J hm fk fC=>?_) hs
 ·exact h
 ·
  obtain ⟨m,hm⟩:=hm
  refine ⟨m,hm,fun h' sb=>⟨.ref D,_,?_,rfl,q D fD⟩⟩
  have fC':upd H' D (.lst ys) C=none:=by rw [ak (Ne.symm hDC)];exact fC
  obtain ⟨f0,f1,f2,f3,f4,f5⟩:=fk _ fC'
  exact J.turned (t':=s'.toks) (it:=C) (fun b o hb e=>sb.extBut b o hb e) f0 f1 f3 f4 f5
theorem KD {i:Nat} {x:Str} {px:Pos} (hc:X.calm=true) (hN:X.N.Nodup) (hi':X.N[i]?=some x) (hx:X.env.scope.names.lookup x=some .local) (S:y8 X scope N nv ix) (hi:PI X tg iter wi)
  (hg: ∀cl C s H ex,PG (X.comp scope cl C N s H ex) tg g) (ht: ∀cl C s H ex,PTs (X.comp scope cl C N s H ex) ifs tt) (he: ∀cl C s H ex,PE (X.comp scope cl C N s H ex) elt te)
  (hsw:swapsWith (.ListComp elt [⟨tg,iter,ifs,0⟩] scope pos) (some (.Name x px)) spos.line X.env=pure true:=by rfl)
  (hs: ∀x,foldedSetIterable iter X.env x=pure x:=by intro _;rfl):PS X (.Assign [.Name x px] (.ListComp elt [⟨tg,iter,ifs,0⟩] scope pos) spos) (Dk (vV nv ix wi g tt te) (o6 i)):=by
 intro pins s σ H D I h
 rw [exec_Assign_Name_used _ _ _ _ hsw]
 refine wpAny_bind (wpAny_standAt (wpAny_bind ?_))
 show wpAny _ _ (do let _←comprehension (.ListComp elt [⟨tg,iter,ifs,0⟩] scope pos) scope X.env (firstIterPos [⟨tg,iter,ifs,0⟩] pos) (newList []) false (eval iter X.env) (some (assign (.Name x px) X.env))) _ _ s
 refine wpAny_bind (thn (AD (Q:=fun ys H'=> ∀l,H' l=none→D.nx (σ.set i (some (.ref l))) (upd H' l (.lst ys))) (use:=some (assign (.Name x px) X.env)) (Qv:=fun _ s'=>SP X pins D .next s') hc S hi hg ht he I h (fun ys l C H' s' s2 σ2 q fD hDC J hm fk fC=>?_) hs)
  fun _ s' hq=>wpAny_pure (wpAny_pure hq))
 obtain ⟨m,hm⟩:=hm
 have fC':upd H' l (.lst ys) C=none:=by rw [ak (Ne.symm hDC)];exact fC
 obtain ⟨f0,f1,f2,f3,f4,f5⟩:=fk _ fC'
 show wpAny _ _ (assign (.Name x px) X.env (.ref l)) _ _ s'
 refine wpAny_assign_Name (Ak J hN hi' (.inl hx) (v:= .ref l) (u:= .ref l) rfl (fun s'' J' ⟨a,sb,ha⟩=>?_) (.inr hx))
 have hCa:C≠a:=by
  rcases ha with z|z
  ·rw [z];exact f1
  ·exact Ne.symm (f4 x a z)
 refine ⟨m,hm.sameBut sb hCa,fun h' sb'=>⟨_,_,?_,q l fD⟩⟩
 exact J'.turned (t':=s''.toks) (it:=C) (fun b o hb e=>sb'.extBut b o hb e) f0 f1 f3 f4 f5
end
noncomputable def Its (x:Str):It:=⟨fun i _=>i<x.cps.size,fun i H v H'=>H'=H∧∃c,x.cps[i]?=some c∧v = .str ⟨#[c]⟩,fun i _=>x.cps.size≤i⟩
theorem Cg {P:Program} {w:World} {K:PySem.W.Frag} {tg:Expr} (it:Addr) (x:Str) (t:Tok) (T:String) (hT:T = "str_ascii_iterator" ∨T = "str_iterator"):Turn P w K tg (Its x) [it] it (fun i h=>h.IsStrIter it T x t i) where
 mem:=by simp
 obj:=fun i h st b hb=>by
  have e:b=it:=by simpa using hb
  subst e
  obtain ⟨o,e,c,d⟩:=st
  exact ⟨o,e,fun v z=>by rw [d] at z;cases z⟩
 keep:=fun i h h' st k=>by
  obtain ⟨o,e,r⟩:=st
  exact ⟨o,k it (by simp) o e,r⟩
 item:=by
  intro X hP hw hK hc i pins s σ H E I hf st hg
  subst hP hw hK
  obtain ⟨f0,f1,f2,f3,f4,f5⟩:=hf it (by simp)
  have hg':i<x.cps.size:=hg
  have W:Walks X.prog X.w X.A it [it] [it] x.cps.size (SignAt x) (fun i h=>h.IsStrIter it T x t i):=by
   rcases hT with rfl|rfl
   ·exact Walks.strAscii (I.ok.hd hc) it x t
   ·exact Walks.strWide (I.ok.hd hc) it x t
  refine W.item i s _ _ hg' st fun v h' tk hv st' kk=>?_
  obtain ⟨c,u,hcx,rfl⟩:=hv
  have I1:Inv X pins σ H {s with heap:=h',toks:=tk}:=I.turned (fun b o hb e=>kk b o (by simpa using hb) e) f0 f1 f3 f4 f5
  obtain ⟨o,e,c',d⟩:=id st'
  refine ⟨_,rfl,E5 (s:={s with heap:=h',toks:=tk}) e c' d (by rcases hT with rfl|rfl<;>decide) ⟨.str ⟨#[c]⟩,H,I1,⟨u,rfl⟩,⟨rfl,c,hcx,rfl⟩,st',fun b hb=>(hf b hb).1⟩⟩
 done:=by
  intro X hP hw hK hc i pins s σ H E I hf st hg
  subst hP hw hK
  obtain ⟨f0,f1,f2,f3,f4,f5⟩:=hf it (by simp)
  have hg':x.cps.size≤i:=hg
  have he:x.cps[i]?=none:=by simp [hg']
  rcases hT with rfl|rfl
  ·exact wpAny_pyNext_ascii_end (I.ok.hd hc) st he fun h' eb=>⟨rfl,I.turned (t':=s.toks) (fun b o hb e=>eb b o hb e) f0 f1 f3 f4 f5⟩
  ·exact wpAny_pyNext_wide_end (I.ok.hd hc) st he fun h' eb=>⟨rfl,I.turned (t':=s.toks) (fun b o hb e=>eb b o hb e) f0 f1 f3 f4 f5⟩
 self:=fun _ _ _ _ _ st h=>by
  rcases hT with rfl|rfl
  ·exact wpAny_pyIter_striter_ascii st h
  ·exact wpAny_pyIter_striter_wide st h
def Co (K:PySem.W.Frag) (x:V) (H1:Hp) (R:It→Hp→Prop):Prop:=match x with
 | .ref a=>(∃xs,bU K H1 a xs∧R (Itl K a) H1)∨(∃xs,iD K H1 a xs∧R (Itt K a) H1)
 | .str z=>R (Its z) H1
 |_=>False
def K9 (K:PySem.W.Frag) (tl:TE):TI:=fun σ H R=>tl σ H fun x H1=>Co K x H1 R
theorem P8 {X:Cx} {tg l:Expr} {tl:TE} (hl:PE X l tl):PI X tg l (K9 X.K tl):=by
 intro pins s σ H R I h
 refine thn (hl pins s σ H _ I h) fun v s1 ⟨x,H1,I1,r1,q1⟩=>?_
 cases x with
 |ref a=>
  cases r1
  rcases q1 with ⟨xs,hq,q⟩|⟨xs,hq,q⟩
  ·
   obtain ⟨its,rv,p,hz⟩:=I1.list hq
   refine wpAny_pyIter_list p.isList ?_
   refine ⟨s1.heap.objs.size,[s1.heap.objs.size],_,_,H1,rfl,I1.kept (t':=s1.toks) fun b o e=>Heap.get?_push_of_some _ e,Fm a _,⟨_,Heap.get?_push_size _ rfl,rfl,rfl⟩,fun b hb=>?_,q⟩
   have e:b=s1.heap.objs.size:=by simpa using hb
   subst e
   exact I1.CL (Nat.le_refl _) (I1.hok.fresh (Nat.le_refl _))
  ·
   obtain ⟨its,rv,p,hz⟩:=I1.tuple hq
   refine wpAny_pyIter_tuple (show s1.heap.IsTuple a its.toArray from p) ?_
   refine ⟨s1.heap.objs.size,[s1.heap.objs.size],_,_,H1,rfl,I1.kept (t':=s1.toks) fun b o e=>Heap.get?_push_of_some _ e,C_ a _,⟨_,Heap.get?_push_size _ rfl,rfl,rfl⟩,fun b hb=>?_,q⟩
   have e:b=s1.heap.objs.size:=by simpa using hb
   subst e
   exact I1.CL (Nat.le_refl _) (I1.hok.fresh (Nat.le_refl _))
 |str z=>
  obtain ⟨t,rfl⟩:=r1
  have fp: ∀b∈[s1.heap.objs.size],xH X pins H1 b:=fun b hb=>by
   have e:b=s1.heap.objs.size:=by simpa using hb
   subst e
   exact I1.CL (Nat.le_refl _) (I1.hok.fresh (Nat.le_refl _))
  cases ha:z.cps.all (· < 128)
  ·exact wpAny_pyIter_wide ha ⟨s1.heap.objs.size,[s1.heap.objs.size],_,_,H1,rfl,I1.kept (t':=s1.toks) fun b o e=>Heap.get?_push_of_some _ e,Cg _ z t _ (.inr rfl),⟨_,Heap.get?_push_size _ rfl,rfl,rfl⟩,fp,q1⟩
  ·exact wpAny_pyIter_ascii ha ⟨s1.heap.objs.size,[s1.heap.objs.size],_,_,H1,rfl,I1.kept (t':=s1.toks) fun b o e=>Heap.get?_push_of_some _ e,Cg _ z t _ (.inl rfl),⟨_,Heap.get?_push_size _ rfl,rfl,rfl⟩,fp,q1⟩
 |_=>exact q1.elim
def forR (J:It) (g:TG) (tb:TS) (D:Ends) (σ:St) (H:Hp):Prop:= ∃W:Nat→Nat→St→Hp→Prop,(∃m,W 0 m σ H)∧∀i m σ H,W i m σ H→
 (J.stop i H∧D.nx σ H)∨(J.go i H∧∃N:St→Hp→Prop,(∀σ' H',N σ' H'→∃m',m'<m∧W (i+1) m' σ' H')∧∀x H',J.yld i H x H'→g x σ H' fun σ2 H2=>tb {D with nx:=N,ct:=N,bk:=D.nx} σ2 H2)
section
variable {K:PySem.W.Frag} {tl:TE} {g:TG} {tb:TS} {D:Ends} {σ:St} {H:Hp} {tt:TT} {te:TE} {nv:Nat} {ix:List Nat} {Q:VK} {ta:TA}
theorem G0:Df (K9 K tl) g tb D σ H=tl σ H fun x H1=>Co K x H1 fun J H2=>forR J g tb D σ H2:=rfl
theorem Ft:vV nv ix (K9 K tl) g tt te σ H Q=tl σ H fun x H1=>Co K x H1 fun J H2=>j6 J g tt te (c6 nv ix σ) H2 fun ys H'=>ys.length≤sizeLine∧∀l,H' l=none→Q (.ref l) (upd H' l (.lst ys)):=rfl
def Am (vs:List V) (H1:Hp) (R:It→Hp→Prop):Prop:=match vs with
 | [.int j]=>(-(2 ^ 62)≤j∧j<2 ^ 62)∧R (GR 0 j.toNat) H1
 |_=>False
def EF (vs:List V) (H1:Hp) (R:It→Hp→Prop):Prop:=match vs with
 | [.int i,.int j]=>(-(2 ^ 62)≤i∧i<2 ^ 62∧-(2 ^ 62)≤j∧j<2 ^ 62)∧R (GR i (j - i).toNat) H1
 |_=>False
def Iv (ta:TA):TI:=fun σ H R=>ta σ H fun vs H1=>Am vs H1 R
def OZ (ta:TA):TI:=fun σ H R=>ta σ H fun vs H1=>EF vs H1 R
def EE (vs:List V) (H1:Hp) (R:It→Hp→Prop):Prop:=match vs with
 | [.int i,.int j,.int c]=>(-(2 ^ 61)≤i∧i<2 ^ 61∧-(2 ^ 61)≤j∧j<2 ^ 61∧0<c∧c<1000000)∧R (aa4 i c (rcount i j c)) H1
 |_=>False
def OY (ta:TA):TI:=fun σ H R=>ta σ H fun vs H1=>EE vs H1 R
theorem Fs:Df (Iv ta) g tb D σ H=ta σ H fun vs H1=>Am vs H1 fun J H2=>forR J g tb D σ H2:=rfl
theorem Fq:Df (OZ ta) g tb D σ H=ta σ H fun vs H1=>EF vs H1 fun J H2=>forR J g tb D σ H2:=rfl
theorem Fp:Df (OY ta) g tb D σ H=ta σ H fun vs H1=>EE vs H1 fun J H2=>forR J g tb D σ H2:=rfl
theorem Di:vV nv ix (Iv ta) g tt te σ H Q=ta σ H fun vs H1=>Am vs H1 fun J H2=>j6 J g tt te (c6 nv ix σ) H2 fun ys H'=>ys.length≤sizeLine∧∀l,H' l=none→Q (.ref l) (upd H' l (.lst ys)):=rfl
theorem Dh:vV nv ix (OZ ta) g tt te σ H Q=ta σ H fun vs H1=>EF vs H1 fun J H2=>j6 J g tt te (c6 nv ix σ) H2 fun ys H'=>ys.length≤sizeLine∧∀l,H' l=none→Q (.ref l) (upd H' l (.lst ys)):=rfl
theorem Dg:vV nv ix (OY ta) g tt te σ H Q=ta σ H fun vs H1=>EE vs H1 fun J H2=>j6 J g tt te (c6 nv ix σ) H2 fun ys H'=>ys.length≤sizeLine∧∀l,H' l=none→Q (.ref l) (upd H' l (.lst ys)):=rfl
theorem FC {j:Int} {R:It→Hp→Prop}:Am [.int j] H R=((-(2 ^ 62)≤j∧j<2 ^ 62)∧R (GR 0 j.toNat) H):=rfl
theorem FA {i j:Int} {R:It→Hp→Prop}:EF [.int i,.int j] H R=((-(2 ^ 62)≤i∧i<2 ^ 62∧-(2 ^ 62)≤j∧j<2 ^ 62)∧R (GR i (j - i).toNat) H):=rfl
theorem Fz {i j c:Int} {R:It→Hp→Prop}:EE [.int i,.int j,.int c] H R=((-(2 ^ 61)≤i∧i<2 ^ 61∧-(2 ^ 61)≤j∧j<2 ^ 61∧0<c∧c<1000000)∧R (aa4 i c (rcount i j c)) H):=rfl
end
section
variable {X:Cx} {tg:Expr}
theorem qz {a:Expr} {ta:TA} {p pos:Pos} (hg:Gl X "range") (hm:X.mg "range" = none) (ha:PA X [a] ta) (hs:starEach [a] X.env= [(false,eval a X.env)]:=by rfl):PI X tg (.Call (.Name "range" p) [a] [] pos) (Iv ta):=by
 intro pins s σ H R I h
 refine Call_ (uX I hg hm boot_range (PyProof.Rows.callWith_type1 (thn (ha pos pins s σ H _ I h) fun us s1 ⟨vs,H1,I1,r1,q1⟩=>?_) hs rfl))
 replace q1:Am vs H1 R:=q1
 unfold Am at q1
 split at q1
 ·
  obtain ⟨⟨q1,q2⟩,q⟩:=q1
  cases r1 with
  |cons r rr=>
   cases rr
   obtain ⟨t,rfl⟩:=r
   exact call_range_1 (Hc I1 (by omega) (by omega) q1 q2 (by simpa using q))
 ·exact q1.elim
end
section
variable {K:PySem.W.Frag} {g:TG} {tb:TS} {D:Ends} {σ:St} {H:Hp}
theorem Rh {lo:Int} {n:Nat} (Pv:Nat→St→Hp→Prop) (h0:Pv 0 σ H)
  (hs: ∀(i:Nat) σ H,i<n→Pv i σ H→g (.int (lo+i)) σ H fun σ2 H2=>tb {D with nx:=Pv (i+1),ct:=Pv (i+1),bk:=D.nx} σ2 H2) (hd: ∀σ H,Pv n σ H→D.nx σ H):
  forR (GR lo n) g tb D σ H:=GD Pv h0 hs hd
end
section
variable {K:PySem.W.Frag} {tt:TT} {te:TE} {H:Hp} {tail:St} {Q:List V→Hp→Prop} {p:V→Bool} {f:V→V}
theorem qE {J:It} {n:Nat} {xs:List V} (hn:xs.length=n) (hz:n≤sizeLine) (go: ∀i,i<n→J.go i H) (stop:J.stop n H) (yl: ∀i x H',i<n→J.yld i H x H'→H'=H∧xs[i]?=some x)
  (ht: ∀x∈xs,∀Q:Bool→Hp→Prop,Q (p x) H→tt (some x::tail) H Q) (he: ∀x∈xs,p x=true→∀Q:VK,Q (f x) H→te (some x::tail) H Q) (q:Q ((xs.filter p).map f) H):
  j6 J (o6 0) tt te (none::tail) H Q:=by
 refine ⟨fun i m ys σ' H'=>i≤n∧m=n - i∧ys=((xs.take i).filter p).map f∧(∃v,σ'=v::tail)∧H'=H,⟨n,Nat.zero_le _,rfl,by simp,⟨_,rfl⟩,rfl⟩,?_⟩
 rintro i m ys σ' H' ⟨hi,rfl,rfl,⟨v,rfl⟩,rfl⟩
 by_cases e:i=n
 ·
  subst e
  refine .inl ⟨stop,?_⟩
  rw [List.take_of_length_le (by omega)]
  exact q
 ·
  have hlt:i<n:=by omega
  refine .inr ⟨go i hlt,?_,fun ys' σ'' H''=>ys'=((xs.take (i+1)).filter p).map f∧(∃v,σ''=v::tail)∧H''=H',fun ys' σ'' H'' ⟨a,b,c⟩=>⟨n - (i+1),by omega,by omega,rfl,a,b,c⟩,fun x H'' y=>?_⟩
  ·have h1:(((xs.take i).filter p).map f).length≤i:=by
    rw [List.length_map]
    exact Nat.le_trans (List.length_filter_le _ _) (by rw [List.length_take];omega)
   omega
  ·
   obtain ⟨rfl,hx⟩:=yl i x H'' hlt y
   have hm:x∈xs:=List.mem_of_getElem? hx
   have tk:xs.take (i+1)=xs.take i++ [x]:=by
    rw [List.take_succ,hx];rfl
   show tt _ _ _
   refine ht x hm _ ?_
   cases hp:p x with
   |true=>
    rw [if_pos rfl]
    refine he x hm hp _ ⟨?_,⟨_,rfl⟩,rfl⟩
    rw [tk,List.filter_append,List.map_append]
    simp [hp]
   |false=>
    rw [if_neg Bool.false_ne_true]
    refine ⟨?_,⟨_,rfl⟩,rfl⟩
    rw [tk,List.filter_append,List.map_append]
    simp [hp]
theorem Fe {a:Addr} {xs:List V} (hS:bU K H a xs) (hz:xs.length≤sizeLine) (ht: ∀x∈xs,∀Q:Bool→Hp→Prop,Q (p x) H→tt (some x::tail) H Q) (he: ∀x∈xs,p x=true→∀Q:VK,Q (f x) H→te (some x::tail) H Q) (q:Q ((xs.filter p).map f) H):
  Co K (.ref a) H fun J H2=>j6 J (o6 0) tt te (none::tail) H2 Q:=
 .inl ⟨xs,hS,qE (n:=xs.length) rfl hz (fun i hi=>⟨xs,xs[i],hS,by simp [hi]⟩) ⟨xs,hS,Nat.le_refl _⟩ (fun i x H' hi y=>⟨y.1,y.2 xs hS⟩) ht he q⟩
theorem Ee {a:Addr} {xs:List V} (hS:iD K H a xs) (hz:xs.length≤sizeLine) (ht: ∀x∈xs,∀Q:Bool→Hp→Prop,Q (p x) H→tt (some x::tail) H Q) (he: ∀x∈xs,p x=true→∀Q:VK,Q (f x) H→te (some x::tail) H Q) (q:Q ((xs.filter p).map f) H):
  Co K (.ref a) H fun J H2=>j6 J (o6 0) tt te (none::tail) H2 Q:=
 .inr ⟨xs,hS,qE (n:=xs.length) rfl hz (fun i hi=>⟨xs,xs[i],hS,by simp [hi]⟩) ⟨xs,hS,Nat.le_refl _⟩ (fun i x H' hi y=>⟨y.1,y.2 xs hS⟩) ht he q⟩
noncomputable def dB (z:Str):List V:=z.cps.toList.map fun c=> .str ⟨#[c]⟩
theorem RE {z:Str} (hz:z.length≤sizeLine) (ht: ∀x∈dB z,∀Q:Bool→Hp→Prop,Q (p x) H→tt (some x::tail) H Q) (he: ∀x∈dB z,p x=true→∀Q:VK,Q (f x) H→te (some x::tail) H Q) (q:Q (((dB z).filter p).map f) H):
  Co K (.str z) H fun J H2=>j6 J (o6 0) tt te (none::tail) H2 Q:=by
 show j6 (Its z) _ _ _ _ _ _
 refine qE (n:=z.cps.size) (xs:=dB z) (by simp [dB]) hz (fun i hi=>hi) (Nat.le_refl _) (fun i x H' hi y=>?_) ht he q
 obtain ⟨e,c,hc,rfl⟩:=y
 refine ⟨e,?_⟩
 unfold dB
 rw [List.getElem?_map,Array.getElem?_toList,hc]
 rfl
noncomputable def Cr (lo:Int) (n:Nat):List V:=(List.range n).map fun i:Nat=> .int (lo+(i:Int))
theorem Ef {lo:Int} {n:Nat} (hz:n≤sizeLine) (ht: ∀i:Nat,i<n→∀Q:Bool→Hp→Prop,Q (p (.int (lo+i))) H→tt (some (.int (lo+i))::tail) H Q) (he: ∀i:Nat,i<n→p (.int (lo+i))=true→∀Q:VK,Q (f (.int (lo+i))) H→te (some (.int (lo+i))::tail) H Q)
  (q:Q (((Cr lo n).filter p).map f) H):j6 (GR lo n) (o6 0) tt te (none::tail) H Q:=by
 refine qE (n:=n) (xs:=Cr lo n) (by simp [Cr]) hz (fun i hi=>hi) (Nat.le_refl _) (fun i x H' hi y=>?_) (fun x hx=>?_) (fun x hx=>?_) q
 ·
  obtain ⟨e,rfl⟩:=y
  refine ⟨e,?_⟩
  unfold Cr
  rw [List.getElem?_map,List.getElem?_range hi]
  rfl
 ·
  obtain ⟨i,hi,rfl⟩:=List.mem_map.mp hx
  exact ht i (List.mem_range.mp hi)
 ·
  obtain ⟨i,hi,rfl⟩:=List.mem_map.mp hx
  exact he i (List.mem_range.mp hi)
theorem Ed {ix:List Nat} {σ:St}:c6 1 ix σ=none::ix.map fun i=>(σ[i]?).join:=rfl
end
section
variable {X:Cx}
def Sn (neg:Bool):R2:=fun x y H Q=>match y with
 | .bl b=>Q (.bl (if neg then !decide (x = .bl b) else decide (x = .bl b))) H
 |_=>False
theorem CV {a b:Bool}:decide (V.bl a=V.bl b)=decide (a=b):=by
 cases a<;>cases b<;>decide
theorem Kq {a b:Bool} {H:Hp} {Q:VK}:Sn false (.bl a) (.bl b) H Q=Q (.bl (decide (a=b))) H:=by
 show Q (.bl (if false=true then _ else decide (V.bl a=V.bl b))) H=_
 rw [if_neg Bool.false_ne_true,CV]
theorem DF {a b:Bool} {H:Hp} {Q:VK}:Sn true (.bl a) (.bl b) H Q=Q (.bl (!decide (a=b))) H:=by
 show Q (.bl (if true=true then !decide (V.bl a=V.bl b) else _)) H=_
 rw [if_pos rfl,CV]
def F2 (neg:Bool):R2:=fun x y H Q=>match y with
 | .non=>Q (.bl (if neg then !decide (x = .non) else decide (x = .non))) H
 |_=>False
theorem EU:my X (compareOp .Is) (F2 false):=my.imp Qh fun x y H Q h=>by
 unfold F2 at h
 split at h
 ·exact ⟨rfl,h⟩
 ·exact h.elim
theorem HX:my X (compareOp .IsNot) (F2 true):=my.imp KR fun x y H Q h=>by
 unfold F2 at h
 split at h
 ·exact ⟨rfl,h⟩
 ·exact h.elim
theorem PU {x:V} {H:Hp} {Q:VK}:F2 false x .non H Q=Q (.bl (decide (x = .non))) H:=rfl
theorem PR {x:V} {H:Hp} {Q:VK}:F2 true x .non H Q=Q (.bl (!decide (x = .non))) H:=rfl
def Kz:V→List V→Hp→VK→Prop:=fun x vs H Q=>match x,vs with
 | .int i,[]=>Q (.int ((Builtin.Int.intBits i:Nat):Int)) H
 |_,_=>False
theorem JY {K:PySem.W.Frag} {i:Int} {H:Hp}:Ph K "int" (.int i) H=True:=by
 show ("int" = "int")=True
 simp
theorem JX {K:PySem.W.Frag} {z:Str} {H:Hp}:Ph K "str" (.str z) H=True:=by
 show ("str" = "str")=True
 simp
theorem Cy {i:Int} {H:Hp} {Q:VK}:Kz (.int i) [] H Q=Q (.int ((Builtin.Int.intBits i:Nat):Int)) H:=rfl
def abx:V→Option Int→Option Int→Hp→VK→Prop:=fun x lo hi H Q=> ∃z,x = .str z∧z.length≤sizeLine∧Q (.str (Txt.slice z lo hi)) H
theorem CB {v:Value} {o:Option Int} (h:IsPart v o): ∃l:Option (Int×Tok),v=partValue l∧l.map (·.1)=o:=by
 cases h with
 |none=>exact ⟨none,rfl,rfl⟩
 |int i t=>exact ⟨some (i,t),rfl,rfl⟩
theorem PB:Fj X abx:=by
 intro pins s σ H x v vl vu lo hi sl Q I rx hs pl pu h
 obtain ⟨z,rfl,hz,q⟩:=h
 obtain ⟨t,rfl⟩:=rx
 obtain ⟨l,rfl,el⟩:=CB pl
 obtain ⟨u,rfl,eu⟩:=CB pu
 refine ⟨"str",_,F.slot_str_getitem.lookup,typeIs_str _ _ _,wpAny_getItem_str_slice (l:=l) (u:=u) (st:=none) hs rfl ?_⟩
 unfold sliceMade
 have e:slicePicked z l u none=Builtin.Str.strSliceIndices lo hi 1 z.length:=by
  unfold slicePicked
  rw [el,eu]
  rfl
 rw [e]
 have hq:Txt.slice z lo hi=if ((1:Int) == 1&&(Builtin.Str.strSliceIndices lo hi 1 z.length).length == z.length)=true then z else ⟨((Builtin.Str.strSliceIndices lo hi 1 z.length).filterMap (z.cps[·]?)).toArray⟩:=rfl
 have hle:=Txt.slice_le z lo hi
 rw [hq] at q hle
 show (if ((1:Int) == 1&&(Builtin.Str.strSliceIndices lo hi 1 z.length).length == z.length)=true then Made.val (.str z t) else _).post _ s
 by_cases c:((1:Int) == 1&&(Builtin.Str.strSliceIndices lo hi 1 z.length).length == z.length)=true
 ·
  rw [if_pos c] at q⊢
  exact ⟨.str z,H,I,⟨t,rfl⟩,q⟩
 ·
  rw [if_neg c] at q hle⊢
  exact ⟨Nat.le_trans hle hz,.str _,H,I.tok _,⟨_,rfl⟩,q⟩
def Hf (K:PySem.W.Frag):V→Option Int→Option Int→Hp→VK→Prop:=fun x lo hi H Q=>match x with
 | .ref a=>(∃xs,bU K H a xs∧∀p,H p=none→Q (.ref p) (upd H p (.lst (yY xs lo hi))))∨Sa K (.ref a) lo hi H Q
 | .str z=>z.length≤sizeLine∧Q (.str (Txt.slice z lo hi)) H
 |_=>False
theorem Fj.imp {r r':V→Option Int→Option Int→Hp→VK→Prop} (h:Fj X r) (i: ∀x lo hi H Q,r' x lo hi H Q→r x lo hi H Q):Fj X r':=
 fun pins s σ H x v vl vu lo hi sl Q I rx hs pl pu q=>h pins s σ H x v vl vu lo hi sl Q I rx hs pl pu (i _ _ _ _ _ q)
theorem abt:Fj X (Hf X.K):=by
 refine Fj.imp (J3.or (Pz.or PB)) fun x lo hi H Q h=>?_
 unfold Hf at h
 split at h
 ·
  rcases h with ⟨xs,h1,h2⟩|h
  ·exact .inl ⟨_,xs,rfl,h1,h2⟩
  ·exact .inr (.inl h)
 ·exact .inr (.inr ⟨_,rfl,h.1,h.2⟩)
 ·exact h.elim
theorem He {K:PySem.W.Frag} {z:Str} {lo hi:Option Int} {H:Hp} {Q:VK}:Hf K (.str z) lo hi H Q=(z.length≤sizeLine∧Q (.str (Txt.slice z lo hi)) H):=rfl
theorem FE {K:PySem.W.Frag} {a:Addr} {xs:List V} {lo hi:Option Int} {H:Hp} {Q:VK} (hS:bU K H a xs) (h: ∀p,H p=none→Q (.ref p) (upd H p (.lst (yY xs lo hi)))):Hf K (.ref a) lo hi H Q:= .inl ⟨xs,hS,h⟩
def Hx (K:PySem.W.Frag) (neg:Bool):R2:=fun x y H Q=>match y with
 | .ref p=> ∃xs,(bU K H p xs∨iD K H p xs)∧o7 x=true∧xs.all o7=true∧Q (.bl (if neg then !O0 x xs else O0 x xs)) H
 | .str j=>(match x with
  | .str i=>Q (.bl (if neg then !(!(Builtin.Str.occurrences j i 0 j.length 1).isEmpty) else !(Builtin.Str.occurrences j i 0 j.length 1).isEmpty)) H
  |_=>False)
 |_=>False
theorem Qi:my X (compareOp .In) (Hx X.K false):=by
 refine my.imp (my.or Gg Gf) fun x y H Q h=>?_
 unfold Hx at h
 split at h
 ·
  obtain ⟨xs,h1,h2,h3,h4⟩:=h
  exact .inl ⟨_,xs,rfl,h1,h2,h3,h4⟩
 ·
  split at h
  ·exact .inr ⟨_,_,rfl,rfl,h⟩
  ·exact h.elim
 ·exact h.elim
theorem Hw {K:PySem.W.Frag} {neg:Bool} {x:V} {p:Addr} {H:Hp} {Q:VK}:Hx K neg x (.ref p) H Q=(∃xs,(bU K H p xs∨iD K H p xs)∧o7 x=true∧xs.all o7=true∧Q (.bl (if neg then !O0 x xs else O0 x xs)) H):=rfl
theorem Hv {K:PySem.W.Frag} {neg:Bool} {i j:Str} {H:Hp} {Q:VK}:Hx K neg (.str i) (.str j) H Q=Q (.bl (if neg then !(!(Builtin.Str.occurrences j i 0 j.length 1).isEmpty) else !(Builtin.Str.occurrences j i 0 j.length 1).isEmpty)) H:=rfl
end
inductive Dt where
 |non|int (i:Int)|str (z:Str)|l (ds:List Dt)|t (ds:List Dt)
def Den (K:PySem.W.Frag) (H:Hp):Nat→V→Dt→Prop
 |0,x,d=>(x = .non∧d = .non)∨(∃i,x = .int i∧d = .int i)∨(∃z,x = .str z∧d = .str z)
 |n+1,x,d=>Den K H n x d∨(∃a xs ds,x = .ref a∧d = .l ds∧bU K H a xs∧Paired (Den K H n) xs ds)∨(∃a xs ds,x = .ref a∧d = .t ds∧iD K H a xs∧Paired (Den K H n) xs ds)
theorem Paired.get {α β:Type} {F:α→β→Prop}: ∀{xs:List α} {ys:List β} {i:Nat} {x:α},Paired F xs ys→xs[i]?=some x→∃y,ys[i]?=some y∧F x y
 |_,_,_,_,.nil,e=>by simp at e
 |_,_,0,_,.cons r _,e=>by simp at e;subst e;exact ⟨_,rfl,r⟩
 |_,_,i+1,x,.cons _ t,e=>by
  obtain ⟨u,h1,h2⟩:=Paired.get (i:=i) (x:=x) t (by simpa using e)
  exact ⟨u,by simpa using h1,h2⟩
open Classical in
theorem Cb {α:Type} {xs ys:List α} {e:Nat→Bool} (hl:xs.length=ys.length) (h: ∀j a b,xs[j]?=some a→ys[j]?=some b→e j=decide (a=b)):(List.range xs.length).all e=decide (xs=ys):=by
 rw [Bool.eq_iff_iff,List.all_eq_true,decide_eq_true_eq]
 constructor
 ·
  intro q
  refine List.ext_getElem hl fun j h1 h2=>?_
  have:=q j (List.mem_range.mpr h1)
  rw [h j xs[j] ys[j] (by simp [h1]) (by simp [h2]),decide_eq_true_eq] at this
  exact this
 ·
  rintro rfl j hj
  have hj':=List.mem_range.mp hj
  rw [h j xs[j] xs[j] (by simp [hj']) (by simp [hj']),decide_eq_true_eq]
section
variable {X:Cx} {pins:List (Addr×Obj)} {σ:St} {H:Hp} {s:Shared}
open Classical in
theorem rV {F G:V→Dt→Prop}: ∀{xs:List V} {ds es:List Dt},Paired F xs ds→Paired G xs es→(∀x d e,F x d→G x e→d=e)→ds=es
 |_,_,_,.nil,.nil,_=>rfl
 |_,_,_,.cons r t,.cons r' t',f=>by rw [f _ _ _ r r',rV t t' f]
theorem pW {a:Addr} {xs ys:List V} (I:Inv X pins σ H s) (h:bU X.K H a xs) (h':iD X.K H a ys):False:=by
 obtain ⟨its,_,p,_⟩:=I.list h
 obtain ⟨its',_,p',_⟩:=I.tuple h'
 obtain ⟨o,n,e,c,_⟩:=p
 obtain ⟨o',e',c',_⟩:=p'
 rw [e] at e'
 cases e'
 rw [c] at c'
 injection c' with z
 exact absurd z (by decide)
theorem J4 {its its2:List Value} (h: ¬its.length=its2.length):(its.toArray.size != its2.toArray.size)=true:=by
 rw [List.size_toArray,List.size_toArray,bne_iff_ne]
 exact h
open Classical in
open Classical in
theorem AJ {ds es:List Dt} {n:Nat} (hn:n=ds.length) (hl:ds.length=es.length):(List.range n).all (fun j=>decide (ds[j]?=es[j]?))=decide (ds=es):=by
 subst hn
 exact Cb hl fun j a b ha hb=>by
  rw [ha,hb,Bool.eq_iff_iff,decide_eq_true_eq,decide_eq_true_eq]
  exact ⟨fun q=>Option.some.inj q,fun q=>by rw [q]⟩
open Classical in
end
def F4 (K:PySem.W.Frag) (neg:Bool):R2:=fun x y H Q=>match x,y with
 | .ref a,.ref b=> ∃n d e,n≤60∧Den K H n (.ref a) d∧Den K H n (.ref b) e∧((d=e∧Q (.bl (!neg)) H)∨(d≠e∧Q (.bl neg) H))
 |x,y=>scal x y=true∧Q (.bl (if neg then !decide (x=y) else decide (x=y))) H
section
variable {X:Cx}
open Classical in
open Classical in
end
section
variable {K:PySem.W.Frag} {H:Hp} {Q:VK}
theorem HD {i j:Int}:F4 K false (.int i) (.int j) H Q=Q (.bl (decide (i=j))) H:=by
 show (scal (.int i) (.int j)=true∧Q (.bl (if false=true then _ else decide (V.int i=V.int j))) H)=_
 rw [if_neg Bool.false_ne_true]
 exact Bf
theorem Hk {i j:Int}:F4 K true (.int i) (.int j) H Q=Q (.bl (!decide (i=j))) H:=by
 show (scal (.int i) (.int j)=true∧Q (.bl (if true=true then !decide (V.int i=V.int j) else _)) H)=_
 rw [if_pos rfl]
 exact Bc
theorem HC {i j:Str}:F4 K false (.str i) (.str j) H Q=Q (.bl (decide (i=j))) H:=by
 show (scal (.str i) (.str j)=true∧Q (.bl (if false=true then _ else decide (V.str i=V.str j))) H)=_
 rw [if_neg Bool.false_ne_true]
 exact Be
theorem Hj {i j:Str}:F4 K true (.str i) (.str j) H Q=Q (.bl (!decide (i=j))) H:=by
 show (scal (.str i) (.str j)=true∧Q (.bl (if true=true then !decide (V.str i=V.str j) else _)) H)=_
 rw [if_pos rfl]
 exact A_
theorem Ky {i j:Bool}:F4 K false (.bl i) (.bl j) H Q=Q (.bl (decide (i=j))) H:=by
 show (scal (.bl i) (.bl j)=true∧Q (.bl (if false=true then _ else decide (V.bl i=V.bl j))) H)=_
 rw [if_neg Bool.false_ne_true]
 exact DK
theorem Ka {i j:Bool}:F4 K true (.bl i) (.bl j) H Q=Q (.bl (!decide (i=j))) H:=by
 show (scal (.bl i) (.bl j)=true∧Q (.bl (if true=true then !decide (V.bl i=V.bl j) else _)) H)=_
 rw [if_pos rfl]
 exact DA
end
noncomputable def aaV (osc scope:Scope) (ON N:List Str) (nv:Nat) (ix:List Nat):Bool:=
 scope.kind == .function&&scope.names.all (fun y=>y.2 != .cell&&(y.2 != .local||scope.names.lookup y.1 == some .local)&&(y.2 != .free||(osc.names.lookup y.1 == some .cell||osc.names.lookup y.1 == some .free)))&&
  N.length == nv+ix.length&&(List.range ix.length).all fun j=>match N[nv+j]?,ix[j]? with
   |some y,some i=>ON[i]? == some y&&(osc.names.lookup y == some .cell||osc.names.lookup y == some .free)&&scope.names.lookup y == some .free
   |_,_=>false
theorem kZ {X:Cx} {scope:Scope} {N:List Str} {nv:Nat} {ix:List Nat} (h:aaV X.env.scope scope X.N N nv ix=true):y8 X scope N nv ix:=by
 unfold aaV at h
 simp only [Bool.and_eq_true,beq_iff_eq,List.all_eq_true,List.mem_range,Bool.or_eq_true,bne_iff_ne,ne_eq] at h
 obtain ⟨⟨⟨h1,h2⟩,h3⟩,h4⟩:=h
 refine ⟨h1,fun y hy=>(h2 y hy).1.1,fun y hy hl=>?_,fun y hy hf=>?_,h3,fun j y e=>?_⟩
 ·
  rcases (h2 y hy).1.2 with z|z
  ·exact absurd hl z
  ·exact z
 ·
  rcases (h2 y hy).2 with z|z
  ·exact absurd hf z
  ·exact z
 ·have hj:j<ix.length:=by
   have:=(List.getElem?_eq_some_iff.mp e).1
   omega
  have q:=h4 j hj
  rw [e,List.getElem?_eq_getElem hj] at q
  simp only [Bool.and_eq_true,beq_iff_eq,Bool.or_eq_true] at q
  exact ⟨ix[j],List.getElem?_eq_getElem hj,q.1.1,q.1.2,q.2⟩
def TupAt (K:PySem.W.Frag) (mg:Str→Option Value) (x:Str) (vs:List V):Prop:=
 ∃(a:Addr) (o:Obj) (its:Array Value) (n:Nat),mg x=some (.ref a)∧K.lookup a=some o∧o.cls = .type "tuple" ∧o.dict=none∧o.data = .seq its n∧its.size≤sizeLine∧Vals vs its.toList
def tTC (K:PySem.W.Frag) (vs:List V):TE:=fun _ H Q=> ∀a,(∀H,iD K H a vs)→(∀H,Ph K "tuple" (.ref a) H)→Q (.ref a) H
theorem KN {X:Cx} {x:Str} {vs:List V} {pos:Pos} (hg:Gl X x) (h:TupAt X.K X.mg x vs) (hd:(x == ("__debug__" : Str))=false:=by decide):PE X (.Name x pos) (tTC X.K vs):=by
 obtain ⟨a,o,its,n,hm,hk,hc,hdi,hda,hz,r⟩:=h
 intro pins s σ H Q I q
 exact lq I hg hm ⟨.ref a,H,I,rfl,q a (fun H=> .inr ⟨o,its,n,hk,hc,hda,hz,r⟩) (fun H=> .inr (.inl ⟨rfl,o,hk,hc,hdi⟩))⟩ hd
theorem xE (bs:List Bool):(List.range bs.length).all (fun i=>bs.getD i false)=bs.all id:=by
 rw [Bool.eq_iff_iff,List.all_eq_true,List.all_eq_true]
 constructor
 ·
  intro h b hb
  obtain ⟨i,hi,rfl⟩:=List.getElem_of_mem hb
  have:=h i (List.mem_range.mpr hi)
  simpa [List.getD,hi] using this
 ·
  intro h i hi
  have hi':=List.mem_range.mp hi
  have:=h bs[i] (List.getElem_mem hi')
  simpa [List.getD,hi'] using this
section
variable {X:Cx}
def HL (K:PySem.W.Frag) (any:Bool):List V→Hp→VK→Prop:=fun xs H Q=>match xs with
 | [.ref p]=> ∃bs:List Bool,bU K H p (bs.map V.bl)∧Q (.bl (if any then bs.any id else bs.all id)) H
 |_=>False
theorem Ci {prog:Program} {w:World} {A:Around} {bs:List Bool} {its:List Value} (r:Vals (bs.map V.bl) its):TruthOf prog w A (fun i v=>its.toArray[i]?=some v) (fun i=>bs.getD i false):=by
 intro i v s Q E hP hQ
 have hP':its[i]?=some v:=by simpa using hP
 have hi:i<bs.length:=by
  have:=(List.getElem?_eq_some_iff.mp hP').1
  have l:=r.length
  rw [List.length_map] at l
  omega
 obtain ⟨u,hu,ru⟩:=r.get (i:=i) (x:= .bl bs[i]) (by rw [List.getElem?_map,List.getElem?_eq_getElem hi];rfl)
 rw [hP'] at hu
 cases hu
 cases ru
 have e:bs.getD i false=bs[i]:=by simp [List.getD,hi]
 replace hQ:Q (bs.getD i false) s:=hQ
 rw [e] at hQ
 exact wpAny_truthy_bool hQ
theorem JG (hc:X.calm=true):bQ X (.builtin "all") (HL X.K false):=by
 intro pins s σ H xs us Q I rs q
 unfold HL at q
 split at q
 ·
  rename_i p
  obtain ⟨u,rfl,ru⟩:=vals1 rs
  cases ru
  obtain ⟨bs,hS,q⟩:=q
  obtain ⟨its,r,pl,hz⟩:=I.list hS
  have hlt:p<s.heap.objs.size:=by obtain ⟨o,e,_⟩:=pl.isList;exact Heap.lt_size e
  have hlen:=r.length
  rw [List.length_map] at hlen
  refine call_all_walk (wpAny_pyIter_list pl.isList ⟨s.heap.objs.size,_,_,_,_,_,_,rfl,Walks.list (A:=X.A.in1) (I.ok.hd hc) s.heap.objs.size p (Nat.ne_of_lt hlt) its.toArray,⟨⟨_,Heap.get?_push_size _ rfl,rfl,rfl⟩,pl.isList.push _⟩,Ci r,fun h' tk hk=>?_⟩)
  refine ⟨.bl _,H,I.kept (h':=h') (t':=tk) fun b o e=>hk b o (fun z=>EY e (Nat.le_refl _) (List.mem_singleton.mp z)) (Heap.get?_push_of_some _ e),?_,q⟩
  rw [List.size_toArray,←hlen,xE]
  rfl
 ·exact q.elim
def abw (K:PySem.W.Frag):List V→Hp→VK→Prop:=fun xs H Q=>match xs with
 | [.ref p]=> ∃ns:List Int,bU K H p (ns.map V.int)∧Q (.int ns.sum) H
 |_=>False
theorem HK {K:PySem.W.Frag} {p:Addr} {H:Hp} {Q:VK}:HL K false [.ref p] H Q=(∃bs:List Bool,bU K H p (bs.map V.bl)∧Q (.bl (bs.all id)) H):=rfl
theorem HJ {K:PySem.W.Frag} {p:Addr} {H:Hp} {Q:VK}:HL K true [.ref p] H Q=(∃bs:List Bool,bU K H p (bs.map V.bl)∧Q (.bl (bs.any id)) H):=rfl
theorem Hd {K:PySem.W.Frag} {p:Addr} {H:Hp} {Q:VK}:abw K [.ref p] H Q=(∃ns:List Int,bU K H p (ns.map V.int)∧Q (.int ns.sum) H):=rfl
def rK (K:PySem.W.Frag):List V→Hp→VK→Prop:=fun xs H Q=>match xs with
 | [.ref p]=> ∃ys,(bU K H p ys∨iD K H p ys)∧∀l,H l=none→Q (.ref l) (upd H l (.lst ys))
 |_=>False
theorem Eh:bQ X (.type "list") (rK X.K):=bQ.imp BM fun xs H Q h=>by
 unfold rK at h
 split at h
 ·
  obtain ⟨ys,h1,h2⟩:=h
  exact ⟨_,ys,rfl,h1,h2⟩
 ·exact h.elim
def J9 (K:PySem.W.Frag):List V→Hp→VK→Prop:=fun xs H Q=>match xs with
 | [.ref p]=> ∃ys,(bU K H p ys∧∀l,H l=none→Q (.ref l) (upd H l (.tup ys)))∨(iD K H p ys∧Q (.ref p) H)
 |_=>False
theorem DE {K:PySem.W.Frag} {p:Addr} {H:Hp} {Q:VK}:rK K [.ref p] H Q=(∃ys,(bU K H p ys∨iD K H p ys)∧∀l,H l=none→Q (.ref l) (upd H l (.lst ys))):=rfl
theorem Ct {K:PySem.W.Frag} {p:Addr} {H:Hp} {Q:VK}:J9 K [.ref p] H Q=(∃ys,(bU K H p ys∧∀l,H l=none→Q (.ref l) (upd H l (.tup ys)))∨(iD K H p ys∧Q (.ref p) H)):=rfl
def HE:List V→Hp→VK→Prop:=fun xs H Q=>match xs with
 | [.int i,.int j]=>LC i j∧∀p,H p=none→Q (.ref p) (upd H p (.tup [.int (i / j),.int (i % j)]))
 |_=>False
theorem Bg {i j:Int} {H:Hp} {Q:VK}:HE [.int i,.int j] H Q=(LC i j∧∀p,H p=none→Q (.ref p) (upd H p (.tup [.int (i / j),.int (i % j)]))):=rfl
def pP:V→List V→Hp→VK→Prop:=fun x vs H Q=>match x,vs with
 | .ref l,[y]=> ∃xs,H l=some (.lst xs)∧xs.length<sizeLine∧Q .non (upd H l (.lst (xs++ [y])))
 |_,_=>False
theorem DX:MtR X "list.append" pP:=by
 intro pins s σ H x xs v us Q I rx rs q
 unfold pP at q
 split at q
 ·
  obtain ⟨ys,h1,h2,h3⟩:=q
  exact Gm pins s σ H _ _ v us Q I rx rs ⟨_,ys,_,rfl,rfl,h1,h2,h3⟩
 ·exact q.elim
theorem Ge {o e:Expr} {to te:TE} {apos cpos:Pos} (ho:PE X o to) (he:PE X e te) (hbase:attributeBase o "append" X.env (eval o X.env)=eval o X.env:=by rfl)
  (
   hfew:((backTo cpos (starEach [e] X.env)).all (fun x=>!x.1)&&(backToKw cpos (keywordEach [] X.env)).all (fun x=>x.1.isSome)
   &&decide ([e].length+([]:List Keyword).length+(if ([]:List Keyword).isEmpty then 0 else 1)<30))=true:=by rfl)
  (hline:(apos.endLine == cpos.line)=true:=by rfl) (hs:starEach [e] X.env=(false,eval e X.env)::starEach [] X.env:=by rfl) (hplain:(backTo cpos (starEach [] X.env)).any (·.1)=false:=by rfl):
  PE X (.Call (.Attribute o "append" apos) [e] [] cpos) (R4 X.K "list" pP to (sL te AO)):=
 ES F.plainAttrs_list F.slot_list_append F.type_list_append DX ho (ET he aq hs) hbase hfew hline hs hplain
theorem sJ {K:PySem.W.Frag} {a:Addr} {xs:List V} {H:Hp} (h:bU K H a xs):Ph K "list" (.ref a) H:= .inl ⟨rfl,xs,h⟩
theorem Bh {l:Addr} {y:V} {H:Hp} {Q:VK}:pP (.ref l) [y] H Q=(∃xs,H l=some (.lst xs)∧xs.length<sizeLine∧Q .non (upd H l (.lst (xs++ [y])))):=rfl
def Sb:V→V→V→Hp→(Hp→Prop)→Prop:=fun o i v H Q=>match o,i with
 | .ref p,.int k=> ∃xs j,H p=some (.lst xs)∧Gs xs.length k=some j∧Q (upd H p (.lst (xs.set j v)))
 |_,_=>False
theorem FG {p:Addr} {k:Int} {v:V} {H:Hp} {Q:Hp→Prop}:Sb (.ref p) (.int k) v H Q=(∃xs j,H p=some (.lst xs)∧Gs xs.length k=some j∧Q (upd H p (.lst (xs.set j v)))):=rfl
def yb (K:PySem.W.Frag):R2:=fun x y H Q=>match x,y with
 | .ref p,.int i=> ∃xs v,(bU K H p xs∨iD K H p xs)∧sH xs i=some v∧Q v H
 | .str z,.int i=> ∃c,z.length≤sizeLine∧sH z.cps.toList i=some c∧Q (.str ⟨#[c]⟩) H
 |_,_=>False
theorem C8.imp {r r':R2} (h:C8 X r) (i: ∀x y H Q,r' x y H Q→r x y H Q):C8 X r':=fun value slice pins s σ H x y v u Q I rx ry q hs=>h value slice pins s σ H x y v u Q I rx ry (i _ _ _ _ q) hs
theorem afw:C8 X (yb X.K):=C8.imp QN fun x y H Q h=>by
 unfold yb at h
 split at h
 ·
  obtain ⟨xs,v,h1,h2,h3⟩:=h
  rcases h1 with h1|h1
  ·exact .inl ⟨_,xs,_,v,rfl,rfl,h1,h2,h3⟩
  ·exact .inr (.inl ⟨_,xs,_,v,rfl,rfl,h1,h2,h3⟩)
 ·
  obtain ⟨c,h1,h2,h3⟩:=h
  exact .inr (.inr ⟨_,_,c,rfl,rfl,h1,h2,h3⟩)
 ·exact h.elim
theorem Hs {K:PySem.W.Frag} {z:Str} {i:Int} {H:Hp} {Q:VK}:yb K (.str z) (.int i) H Q=(∃c,z.length≤sizeLine∧sH z.cps.toList i=some c∧Q (.str ⟨#[c]⟩) H):=rfl
theorem CI {K:PySem.W.Frag} {p:Addr} {i:Int} {H:Hp} {Q:VK} {xs:List V} {v:V} (h:bU K H p xs) (e:sH xs i=some v) (q:Q v H):yb K (.ref p) (.int i) H Q:=⟨xs,v,.inl h,e,q⟩
theorem xO {K:PySem.W.Frag} {p:Addr} {i:Int} {H:Hp} {Q:VK} {xs:List V} {v:V} (h:iD K H p xs) (e:sH xs i=some v) (q:Q v H):yb K (.ref p) (.int i) H Q:=⟨xs,v,.inr h,e,q⟩
theorem Iy {K:PySem.W.Frag} {H:Hp} {a:Addr} {ns:List Int} {k:Int} {Q:VK} (hS:bU K H a (ns.map V.int)) (h0:0≤k) (h1:k<(ns.length:Int)) (q:Q (.int (ns.getD k.toNat 0)) H):yb K (.ref a) (.int k) H Q:=by
 refine CI hS ?_ q
 obtain ⟨j,rfl⟩: ∃j:Nat,k=(j:Int):=⟨k.toNat,by omega⟩
 refine Ly ?_
 have hj:j<ns.length:=by omega
 rw [List.getElem?_map,List.getElem?_eq_getElem hj]
 simp [List.getD,hj]
end
section
variable {K:PySem.W.Frag} {H:Hp} {σ:St}
theorem Jo {n:Nat} {t:y7} {a:Addr} {Q:St→Hp→Prop}:Lg K n t (.ref a) σ H Q=(∃xs,iD K H a xs∧xs.length=n∧t xs σ H Q):=by
 apply propext
 constructor
 ·
  rintro ⟨b,xs,e,h⟩
  cases e
  exact ⟨xs,h⟩
 ·
  rintro ⟨xs,h⟩
  exact ⟨a,xs,rfl,h⟩
theorem D7 {t:TG} {u:y7} {v:V} {r:List V} {Q:St→Hp→Prop}:Jr t u (v::r) σ H Q=t v σ H fun σ' H'=>u r σ' H' Q:=by
 apply propext
 constructor
 ·
  rintro ⟨v',r',e,h⟩
  cases e
  exact h
 ·
  intro h
  exact ⟨v,r,rfl,h⟩
theorem Jq {Q:St→Hp→Prop}:aaM [] σ H Q=Q σ H:=by
 apply propext
 exact ⟨fun h=>h.2,fun h=>⟨rfl,h⟩⟩
theorem Rl {i:Int} {P:Int→Prop}:(∃k,V.int i = .int k∧P k)=P i:=by
 apply propext
 constructor
 ·
  rintro ⟨k,e,q⟩
  cases e;exact q
 ·intro q;exact ⟨i,rfl,q⟩
theorem Dq {n:Nat} (h:n≤1000):(n≤sizeLine)=True:=by
 have:=sizeLine_eq
 simp only [eq_iff_iff,iff_true]
 omega
theorem G6 {n:Nat} (h:n≤1000):(n<sizeLine)=True:=by
 have:=sizeLine_eq
 simp only [eq_iff_iff,iff_true]
 omega
end
section
variable {X:Cx} (K:PySem.W.Frag) (h:X.K=K)
theorem bb (h:X.K=K):my X (binaryOp .Add) (Ap K):=h▸KU
theorem lE (h:X.K=K):bQ X (.builtin "len") (vW K):=h▸GN
theorem fw (h:X.K=K):bQ X (.builtin "isinstance") (mB K):=h▸JF
theorem Bn (h:X.K=K):my X (compareOp .In) (Hx K false):=h▸Qi
theorem abr (h:X.K=K):Fj X (Hf K):=h▸abt
theorem Iw (h:X.K=K):C8 X (yb K):=h▸afw
theorem c_ {tg l:Expr} {tl:TE} (h:X.K=K) (hl:PE X l tl):PI X tg l (K9 K tl):=h▸P8 hl
theorem lF (h:X.K=K) (hc:X.calm=true):bQ X (.builtin "all") (HL K false):=h▸JG hc
theorem fj (h:X.K=K):bQ X (.type "list") (rK K):=h▸Eh
theorem HP {x:Str} {vs:List V} {pos:Pos} (h:X.K=K) (hg:Gl X x) (ht:TupAt K X.mg x vs) (hd:(x == ("__debug__" : Str))=false:=by decide):PE X (.Name x pos) (tTC K vs):=by
 subst h
 exact KN hg ht hd
theorem KL {es:List Expr} {k:Nat} {pos:Pos} {t:y7} {n:Nat} (h:X.K=K) (hc:X.calm=true) (hh:JS X es t)
  (hn:(assignEach es X.env).length=n:=by rfl) (hst:(assignEach es X.env).findIdx? (·.1)=none:=by rfl):PG X (.Tuple es k pos) (Lg K n t):=h▸P_ hc hh hn hst
theorem Qf {o e:Expr} {es:List Expr} {to:TE} {t:TA} {name:Str} {apos cpos:Pos} {T id:String} {r:V→List V→Hp→VK→Prop} (h:X.K=K) (pa:PlainAttrs T) (slot:Slot T name id) (hty:typeOf (.builtin id)=pure (.type "method_descriptor")) (hm:MtR X id r) (ho:PE X o to) (ha:PA X (e::es) t)
  (hbase:attributeBase o name X.env (eval o X.env)=eval o X.env:=by rfl)
  (
   hfew:((backTo cpos (starEach (e::es) X.env)).all (fun x=>!x.1)&&(backToKw cpos (keywordEach [] X.env)).all (fun x=>x.1.isSome)
   &&decide ((e::es).length+([]:List Keyword).length+(if ([]:List Keyword).isEmpty then 0 else 1)<30))=true:=by rfl)
  (hline:(apos.endLine == cpos.line)=true:=by rfl) (hs:starEach (e::es) X.env=(false,eval e X.env)::starEach es X.env:=by rfl) (hplain:(backTo cpos (starEach es X.env)).any (·.1)=false:=by rfl):
  PE X (.Call (.Attribute o name apos) (e::es) [] cpos) (R4 K T r to t):=h▸ES pa slot hty hm ho ha hbase hfew hline hs hplain
theorem yg {o e:Expr} {to te:TE} {apos cpos:Pos} (h:X.K=K) (ho:PE X o to) (he:PE X e te) (hbase:attributeBase o "append" X.env (eval o X.env)=eval o X.env:=by rfl)
  (
   hfew:((backTo cpos (starEach [e] X.env)).all (fun x=>!x.1)&&(backToKw cpos (keywordEach [] X.env)).all (fun x=>x.1.isSome)
   &&decide ([e].length+([]:List Keyword).length+(if ([]:List Keyword).isEmpty then 0 else 1)<30))=true:=by rfl)
  (hline:(apos.endLine == cpos.line)=true:=by rfl) (hs:starEach [e] X.env=(false,eval e X.env)::starEach [] X.env:=by rfl) (hplain:(backTo cpos (starEach [] X.env)).any (·.1)=false:=by rfl):
  PE X (.Call (.Attribute o "append" apos) [e] [] cpos) (R4 K "list" pP to (sL te AO)):=h▸Ge ho he hbase hfew hline hs hplain
end
def RZ (t u:TS):TS:=fun D σ H=> ∃M:St→Hp→Prop,t {D with nx:=M} σ H∧∀σ' H',M σ' H'→u D σ' H'
theorem KC {X:Cx} {st:Stmt} {rest:List Stmt} {t u:TS} (h1:PS X st t) (h2:y_ X rest u):y_ X (st::rest) (RZ t u):=by
 intro pins s σ H D I ⟨M,h,k⟩
 refine wpAny_execs_cons (thn (h1 pins s σ H {D with nx:=M} I h) fun f s1 q=>?_)
 cases f with
 |next=>
  obtain ⟨σ',H',I',q⟩:=q
  exact h2 pins s1 σ' H' D I' (k σ' H' q)
 |ret v=>exact q
 |brk=>exact q
 |cont=>exact q
noncomputable def isStar:Expr→Bool
 | .Starred .. =>true
 |_=>false
theorem bJ {e:Expr} {es:List Expr} {env:Env} (h:isStar e=false):starEach (e::es) env=(false,eval e env)::starEach es env:=by
 cases e<;>first|rfl|exact absurd h (by simp [isStar])
theorem jS {pos:Pos} {env:Env}: ∀{es:List Expr},es.any isStar=false→(backTo pos (starEach es env)).any (·.1)=false
 | [],_=>rfl
 |e::es,h=>by
  rw [List.any_cons,Bool.or_eq_false_iff] at h
  rw [bJ h.1]
  show (false||(backTo pos (starEach es env)).any (·.1))=false
  rw [jS h.2]
  rfl
theorem rj {e:Expr} {es:List Expr} {env:Env} (h:isStar e=false):(assignEach (e::es) env).map (·.2)=assign e env::(assignEach es env).map (·.2):=by
 cases e<;>first|rfl|exact absurd h (by simp [isStar])
theorem mw {env:Env}: ∀{es:List Expr},(assignEach es env).length=es.length
 | []=>rfl
 |e::es=>by
  have ih:=@mw env es
  cases e<;>(show (assignEach es env).length+1=es.length+1;rw [ih])
theorem iB {env:Env}: ∀{es:List Expr},es.any isStar=false→(assignEach es env).findIdx? (·.1)=none
 | [],_=>rfl
 |e::es,h=>by
  rw [List.any_cons,Bool.or_eq_false_iff] at h
  have ih:=iB (env:=env) h.2
  have e1:assignEach (e::es) env=(false,assign e env)::assignEach es env:=by
   have:=h.1
   cases e<;>first|rfl|exact absurd this (by simp [isStar])
  rw [e1,List.findIdx?_cons,ih]
  rfl
noncomputable def ly:Expr→Bool
 | .UnaryOp .Not _ _=>false
 | .BoolOp .. =>false
 | .IfExp .. =>false
 | .Compare .. =>false
 |_=>true
theorem Gw {e:Expr} {env:Env} (h:ly e=true) (whole:Sem Value):isTrue e env whole=(do let v←whole;standAt e.pos;holding [v] (truthy v)):=by
 cases e with
 |UnaryOp op a p=>cases op<;>first|rfl|exact absurd h (by simp [ly])
 |BoolOp=>exact absurd h (by simp [ly])
 |IfExp=>exact absurd h (by simp [ly])
 |Compare=>exact absurd h (by simp [ly])
 |_=>rfl
section
variable {X:Cx} {CX:pz} {k n:Nat} {ps:List Str} {sp:Sp} {x:Str} {p pos:Pos} {e:Expr} {es:List Expr} {t:TA} {te:TE} {id T:String} {r:List V→Hp→VK→Prop}
theorem ax (ha:PE X e te) (hr:PA X es t) (h:isStar e=false:=by rfl):PA X (e::es) (sL te t):=ET ha hr (bJ h)
theorem bg [Quiet CX] (G:FnAt X.prog X.w X.K X.mg X.base CX x k ps sp) (hr:cz n X.A) (hk:k≤n) (hg:Gl X x) (ha:PA X (e::es) t)
  (hdb:(x == ("__debug__" : Str))=false:=by decide) (h:(e::es).any isStar=false:=by rfl):PE X (.Call (.Name x p) (e::es) [] pos) (Cj sp [] E0 t):=by
 rw [List.any_cons,Bool.or_eq_false_iff] at h
 exact Ss G hr hk hg ha hdb (bJ h.1) (jS h.2)
theorem aV (hc:bQ X (.builtin id) r) (hg:Gl X x) (hm:X.mg x=none) (hv:bootBuiltins x=some (.builtin id)) (ha:PA X (e::es) t) (hn:x≠ "__name__" :=by decide) (hdb:(x == ("__debug__" : Str))=false:=by decide)
  (h:(e::es).any isStar=false:=by rfl):PE X (.Call (.Name x p) (e::es) [] pos) (RO r t):=by
 rw [List.any_cons,Bool.or_eq_false_iff] at h
 exact HV hc hg hm hv ha hn hdb (bJ h.1) (jS h.2)
theorem eO (hc:bQ X (.type T) r) (hg:Gl X x) (hm:X.mg x=none) (hv:bootBuiltins x=some (.type T)) (ha:PA X (e::es) t) (hn:x≠ "__name__" :=by decide) (hdb:(x == ("__debug__" : Str))=false:=by decide)
  (h:(e::es).any isStar=false:=by rfl):PE X (.Call (.Name x p) (e::es) [] pos) (RO r t):=by
 rw [List.any_cons,Bool.or_eq_false_iff] at h
 exact Gd hc hg hm hv ha hn hdb (bJ h.1) (jS h.2)
theorem vY {g:TG} {u:y7} (h1:PG X e g) (h2:JS X es u) (h:isStar e=false:=by rfl):JS X (e::es) (Jr g u):=HN h1 h2 (rj h)
theorem EL (K:PySem.W.Frag) {j n:Nat} {u:y7} (hK:X.K=K) (hc:X.calm=true) (hh:JS X es u) (hn:es.length=n:=by rfl) (h:es.any isStar=false:=by rfl):PG X (.Tuple es j pos) (Lg K n u):=
 KL K hK hc hh (by rw [mw];exact hn) (iB h)
theorem Bi (he:PE X e te) (h:ly e=true:=by rfl):PT X e (tB te):=P2 he (Gw h)
end
noncomputable def oP:Expr→Bool
 | .ListComp .. =>true
 | .SetComp .. =>true
 | .DictComp .. =>true
 |_=>false
noncomputable def isTup:Expr→Bool
 | .Tuple .. =>true
 |_=>false
noncomputable def ID:Expr→Bool
 | .Set .. =>true
 |_=>false
theorem pB {e:Expr} {tg:Option Expr} {l:Nat} {env:Env} (h:oP e=false):swapsWith e tg l env=pure false:=by
 cases e<;>first|rfl|exact absurd h (by simp [oP])
theorem Fu {tg e:Expr} {env:Env} (h:isTup e=false):swappedStores [tg] e env=pure none:=by
 cases e with
 |Tuple=>simp [isTup] at h
 |_=>cases tg<;>rfl
theorem xM {op:CmpOp} {b:Expr} (h:ID b=false):behindInMarks op b=false:=by
 cases b<;>first|rfl|exact absurd h (by simp [ID])
section
variable {X:Cx} {pos:Pos}
theorem KI {tg e:Expr} {te:TE} {g:TG} (he:PE X e te) (hg:PG X tg g) (h1:oP e=false:=by rfl) (h2:isTup e=false:=by rfl) (h3:isStar tg=false:=by rfl):PS X (.Assign [tg] e pos) (Dk te g):=
 P6 he hg (pB h1) (Fu h2) (rj h3)
theorem bo {i:Nat} {x:Str} {e:Expr} {te:TE} {pos':Pos} (hN:X.N.Nodup) (hi:X.N[i]?=some x) (hx:Loc X.env.scope x) (he:PE X e te) (h:oP e=false:=by rfl) (hf:X.fn x=true∨X.env.scope.names.lookup x=some .local:=by first|exact .inl rfl|exact .inr rfl|assumption):
  PS X (.Assign [.Name x pos'] e pos) (Dk te (o6 i)):=P5 hN hi hx he (pB h) hf
theorem nB {e:Expr} {te:TE} (he:PE X e te) (h:oP e=false:=by rfl):PS X (.Expr e pos) (Ez te):=KH he (pB h)
end
def tCs (vs:List V):TA:=fun _ H Q=>Q vs H
theorem GV {K:PySem.W.Frag} {h:Heap} {mg:Str→Option Value} {x:Str} {vs:List V} {b:Addr} {o:Obj} {its:Array Value} {n:Nat} (X:K.In h) (G:h.Ns mainGlobals mg)
  (a:PySem.W.nsIn K mainGlobals x=some (some (.ref b))) (l:K.lookup b=some o) (c:o.cls = .type "tuple") (d:o.dict=none) (e:o.data = .seq its n) (z:its.size≤sizeLine) (r:Vals vs its.toList):TupAt K mg x vs:=
 ⟨b,o,its,n,PySem.W.mg_of X G a,l,c,d,e,z,r⟩
end L2
namespace BitM
end BitM
namespace Rem
end Rem
namespace BitI
open PySem L2
end BitI
namespace RemM
open Rem
end RemM
namespace Held
end Held
namespace Com
open PySem L2
theorem ao {H:Hp} {p:Addr} {o:HO} (h:H p=none):aW H (upd H p o):=fun b u e=>by rw [ak (av e h)];exact e
theorem lL {K:PySem.W.Frag} {H H':Hp} {a:Addr} {xs:List V} (e:aW H H') (h:bU K H a xs):bU K H' a xs:=e.seq h
theorem JA {ns:List Int} {lo hi:Option Int}:yY (ns.map V.int) lo hi=((ns.drop (HT.iC ns.length 0 lo)).take (HT.iC ns.length ns.length hi - HT.iC ns.length 0 lo)).map V.int:=by
 unfold yY
 rw [List.length_map,List.map_take,List.map_drop]
theorem mC {H:Hp} {p q:Addr} {o x:HO} (h:H p=some x) (hn:H q=none):upd H q o p=some x:=by rw [ak (av h hn)];exact h
theorem fo {K:PySem.W.Frag} {H:Hp} {Q:VK} {l b:Addr} {xs zs:List V} (h1:H l=some (.lst xs)) (h2:H b=some (.lst zs)) (hz:xs.length+zs.length≤sizeLine) (q: ∀p,H p=none→Q (.ref p) (upd H p (.lst (xs++zs)))):Ap K (.ref l) (.ref b) H Q:=
 .inl ⟨l,b,xs,zs,rfl,rfl,h1,h2,hz,q⟩
theorem bh {n:Nat} (h:n≤1000):n≤sizeLine:=by rw [sizeLine_eq];omega
theorem Iz {K:PySem.W.Frag} {H:Hp} {a:Addr} {xs:List V} {Q:VK} (h:H a=some (.lst xs)) (q:Q (.bl true) H):mB K [.ref a,.ty "list"] H Q:=⟨_,true,.lst h,Qx K,q⟩
theorem E1 {K:PySem.W.Frag} {H:Hp} {a:Addr} {xs:List V} {Q:VK} (h:H a=some (.tup xs)) (q:Q (.bl true) H):mB K [.ref a,.ty "tuple"] H Q:=⟨_,true,.tup h,Qt K,q⟩
theorem fresh_ne {H:Hp} {p q:Addr} {o:HO} (h:upd H p o q=none):q≠p:=fun e=>by
 subst e
 rw [aa] at h
 cases h
theorem GC {H:Hp} {p q:Addr} {o:HO} (h:upd H p o q=none):H q=none:=by
 rw [ak (fresh_ne h)] at h
 exact h
end Com
namespace L2
open PySem PySem.Spec PyProof.Rows
structure cE (K:PySem.W.Frag) (mg:Str→Option Value) (x:Str) (C:Addr):Prop where
 JP:mg x=some (.ref C)
 cl:Pb K C
 mks:PySem.W.makesIn K C=true
 kp:PySem.W.keepIn K (.ref C)=true
def MethAt (K:PySem.W.Frag) (C:Addr) (m q:Str) (st:Stmt):Prop:= ∃f fd,Fun K m q st f fd∧Meth K C m f
def cC (P:Program) (w:World) (K:PySem.W.Frag) (mg:Str→Option Value) (base:Heap) (CX:pz) (C:Addr) (m:Str) (k:Nat) (ps:List Str) (sp:Sp):Prop:=
 ∃f fd,vT P w K mg base CX k f fd ps sp∧Meth K C m f∧Binds K fd ps []
theorem Ir {K:PySem.W.Frag} {h:Heap} {mg:Str→Option Value} {x:Str} {C:Addr} (X:K.In h) (G:h.Ns mainGlobals mg) (a:PySem.W.nsIn K mainGlobals x=some (some (.ref C)))
  (pg:PySem.W.plainGet K C Str.empty=true) (hd:PySem.W.hasDictIn K C=true) (po:PySem.W.plainOver K C=true) (sa:PySem.W.findIn K (.ref C) "__setattr__" = some (some (.builtin "object.__setattr__"))) (mk:PySem.W.makesIn K C=true) (kc:PySem.W.keepIn K (.ref C)=true):cE K mg x C:=
 ⟨PySem.W.mg_of X G a,⟨pg,hd,po,sa⟩,mk,kc⟩
theorem Gn {K:PySem.W.Frag} {C:Addr} {m q:Str} {st:Stmt} {f:Addr} {oc:Value} {od an:Option Addr} {osl:Array (Option Value)} {kV doc pm cdv ct:Value}
  (a:PySem.W.findIn K (.ref C) m=some (some (.ref f))) (i:PySem.W.isFn K (.ref f)=true)
  (l:K.lookup f=some ⟨oc,od,.func (PySem.W.fnOf m q (di st) (b7 st) (aA st) .none kV doc pm an cdv ct),osl⟩) (c:PySem.W.codeIn K cdv q=true) (k:PySem.W.keepIn K (.ref f)=true):MethAt K C m q st:=
 ⟨f,_,Js l c k,⟨a,i,k⟩⟩
section
variable {P:Program} {w:World} {K:PySem.W.Frag} {mg:Str→Option Value} {base:Heap} {CX:pz}
theorem MethAt.fn {C:Addr} {m q:Str} {st:Stmt} {N ps:List Str} {k:Nat} {sp:Sp} (F:MethAt K C m q st) (S:aU N ps (aA st))
  (hb: ∀(kV doc pm:Value) (an:Option Addr) (cdv ct:Value) (us:List Value),us.length=ps.length→bindArgs (PySem.W.fnOf m q (di st) (b7 st) (aA st) .none kV doc pm an cdv ct) ⟨us,[]⟩=pure (ps.zip us))
  (len: ∀vs H Q E,sp vs H Q E→vs.length=ps.length)
  (
   hbody: ∀(f:Addr) (cdv:Value) (A:Around) (outer:List Env) (s:Shared) (H:Hp) (vs:List V) (Q:VK) (E:XK),cz k (A.deeper (envOfC q (aA st) s.heap.objs.size f cdv))→sp vs H Q E→
   ∃t,y_ (vL CX P w K mg base N q (aA st) f cdv A outer s H E).nox (b7 st) t∧t {nx:=fun _ H'=>Q .non H',rt:=Q} (start N vs) H):cC P w K mg base CX C m (k+1) ps sp:=by
 obtain ⟨f,fd,F,hm⟩:=F
 have bd:=F.binds hb
 obtain ⟨oc,od,kV,doc,pm,an,cdv,ct,osl,rfl,lk,hcd⟩:=F.ex
 refine ⟨f,_,E8 lk hcd S len fun A outer s H vs Q E hr hsp=>?_,hm,bd⟩
 obtain ⟨t,h,q⟩:=hbody f cdv A outer s H vs Q E hr hsp
 exact ⟨t,h.nox,q⟩
end
def PY (C:Addr) (f:Str) (x:V) (H:Hp) (Q:VK):Prop:= ∃a,x = .ref a∧∃dx fs,H a=some (.ins C dx fs)∧∃v,fs.lookup f=some v∧Q v H
def LI (C:Addr) (f:Str) (ta:TE):TE:=fun σ H Q=>ta σ H fun x H1=>PY C f x H1 Q
def Hg (C:Addr) (f:Str) (y x:V) (H:Hp) (N:Hp→Prop):Prop:= ∃a,x = .ref a∧∃dx fs,H a=some (.ins C dx fs)∧fs.length<1000∧N (upd H a (.ins C dx (bD f y fs)))
def LK (C:Addr) (f:Str) (ta tv:TE):TS:=fun D σ H=>tv σ H fun y H1=>ta σ H1 fun x H2=>Hg C f y x H2 (D.nx σ)
def HI (C:Addr) (f:Str) (x:V) (H:Hp) (K:V→(V→Hp→Prop)→Prop) (N:Hp→Prop):Prop:= ∃a,x = .ref a∧∃dx fs,H a=some (.ins C dx fs)∧∃v,fs.lookup f=some v∧
 K v fun z H3=> ∃dx' fs',H3 a=some (.ins C dx' fs')∧fs'.length<1000∧N (upd H3 a (.ins C dx' (bD f z fs')))
def R9 (C:Addr) (f:Str) (ta tv:TE) (rd:R2):TS:=fun D σ H=>ta σ H fun x H1=>HI C f x H1 (fun v R=>tv σ H1 fun y H2=>rd v y H2 R) (D.nx σ)
def rMt (C:Addr) (m:Str) (x:V) (H:Hp) (N:Prop):Prop:= ∃a,x = .ref a∧∃dx fs,H a=some (.ins C dx fs)∧fs.lookup m=none∧N
def Pp (C:Addr) (m:Str) (sp:Sp) (ta:TE) (t:TA):TE:=fun σ H Q=>ta σ H fun x H1=>rMt C m x H1 (t σ H1 fun vs H2=>sp (x::vs) H2 Q E0)
theorem Hy {C a:Addr} {f:Str} {H:Hp} {Q:VK}:PY C f (.ref a) H Q= ∃dx fs,H a=some (.ins C dx fs)∧∃v,fs.lookup f=some v∧Q v H:=by
 apply propext;unfold PY;constructor
 ·rintro ⟨b,e,h⟩;cases e;exact h
 ·exact fun h=>⟨a,rfl,h⟩
theorem FF {C a:Addr} {f:Str} {y:V} {H:Hp} {N:Hp→Prop}:Hg C f y (.ref a) H N= ∃dx fs,H a=some (.ins C dx fs)∧fs.length<1000∧N (upd H a (.ins C dx (bD f y fs))):=by
 apply propext;unfold Hg;constructor
 ·rintro ⟨b,e,h⟩;cases e;exact h
 ·exact fun h=>⟨a,rfl,h⟩
theorem F8 {C a:Addr} {f:Str} {H:Hp} {K:V→(V→Hp→Prop)→Prop} {N:Hp→Prop}:HI C f (.ref a) H K N= ∃dx fs,H a=some (.ins C dx fs)∧∃v,fs.lookup f=some v∧
  K v fun z H3=> ∃dx' fs',H3 a=some (.ins C dx' fs')∧fs'.length<1000∧N (upd H3 a (.ins C dx' (bD f z fs'))):=by
 apply propext;unfold HI;constructor
 ·rintro ⟨b,e,h⟩;cases e;exact h
 ·exact fun h=>⟨a,rfl,h⟩
theorem Kb {C a:Addr} {m:Str} {H:Hp} {N:Prop}:rMt C m (.ref a) H N= ∃dx fs,H a=some (.ins C dx fs)∧fs.lookup m=none∧N:=by
 apply propext;unfold rMt;constructor
 ·rintro ⟨b,e,h⟩;cases e;exact h
 ·exact fun h=>⟨a,rfl,h⟩
theorem Jv {C d:Addr} {l:List (Str×V)} {N:Addr→List (Str×V)→Prop}:(∃dx fs,some (HO.ins C d l)=some (HO.ins C dx fs)∧N dx fs)=N d l:=by
 apply propext;constructor
 ·rintro ⟨dx,fs,e,h⟩;cases e;exact h
 ·exact fun h=>⟨d,l,rfl,h⟩
theorem Rj {x:V} {N:V→Prop}:(∃v,some x=some v∧N v)=N x:=by
 apply propext;constructor
 ·rintro ⟨v,e,h⟩;cases e;exact h
 ·exact fun h=>⟨x,rfl,h⟩
theorem Gj {K:PySem.W.Frag} {C:Addr} {f:Str} (h:PySem.W.findIn K (.ref C) f=some none):a6 K C f:=h
theorem lK {H:Hp} {x dx C:Addr} {fs:List (Str×V)} (nx:H x=none) (nd:H dx=none):aW H (upd (upd H dx (.own x)) x (.ins C dx fs)):=fun b o e=>by
 rw [ak (av e nx),ak (av e nd)];exact e
section
variable {X:Cx} {C:Addr} {o e value:Expr} {es:List Expr} {f m x:Str} {p pos pos' tpos apos:Pos} {ta tv:TE} {t:TA} {k n:Nat} {ps:List Str} {sp:Sp}
theorem bp (he:PE X e ta) (c:cE X.K X.mg x C) (nn:a6 X.K C f) (hb:attributeBase e f X.env (eval e X.env)=eval e X.env):PE X (.Attribute e f pos) (LI C f ta):=by
 intro pins s σ H Q I h
 refine Fh hb (thn (he pins s σ H _ I h) fun u s1 ⟨x,H1,I1,rx,a,ex,dx,fs,ea,v,l,q⟩=>?_)
 subst ex
 obtain rfl:u=Value.ref a:=rx
 exact D6 I1 ea c.cl nn l fun u' s2 I2 ru=>⟨v,H1,I2,ru,q⟩
theorem aZ (ha:PE X o ta) (hv:PE X value tv) (c:cE X.K X.mg x C) (nn:a6 X.K C f) (hs:oP value=false:=by rfl):PS X (.Assign [.Attribute o f pos'] value pos) (LK C f ta tv):=by
 intro pins s σ H D I h
 refine plainObj_wpAny_Assign_Attribute (thn (hv pins s σ H _ I h) fun u s1 ⟨y,H1,I1,ry,q⟩=>thn (ha pins s1 σ H1 _ I1 q) fun ov s2 ⟨x,H2,I2,rx,a,ex,dx,fs,ea,l,q2⟩=>?_) (pB hs)
 subst ex
 obtain rfl:ov=Value.ref a:=rx
 exact Dr I2 ea c.cl nn l ry fun s3 I3=>⟨σ,_,I3,q2⟩
theorem rS {CX:pz} [Quiet CX] {pl:Sem Bool} (he:PE X o ta) (c:cE X.K X.mg x C) (G:cC X.prog X.w X.K X.mg X.base CX C m k ps sp) (hr:cz n X.A) (hk:k≤n) (ha:PA X (e::es) t) (hst:(e::es).any isStar=false:=by rfl)
  (
   ht:eval (.Call (.Attribute o m apos) (e::es) [] pos) X.env=(do
   let ov←eval o X.env
   standAt apos.atName
   let (f,first)←holding [ov] (getMethod ov m pl)
   callWith pos f first (backTo pos (starEach (e::es) X.env)) (backToKw pos (keywordEach [] X.env))):=by rfl):
  PE X (.Call (.Attribute o m apos) (e::es) [] pos) (Pp C m sp ta t):=by
 obtain ⟨f,fd,F,hm,b⟩:=G
 rw [List.any_cons,Bool.or_eq_false_iff] at hst
 intro pins s σ H Q I h
 refine PySem.W.methodCall_KW (pl:=pl) (thn (he pins s σ H _ I h) fun u s1 ⟨x,H1,I1,rx,a,ex,dx,fs,ea,l,q⟩=>?_) ht
 subst ex
 obtain rfl:u=Value.ref a:=rx
 refine r6 I1 ea c.cl hm l ?_
 refine PySem.W.callWith_K (first:=[.ref a]) (h₀:=X.base) I.ok.mod.kin hm.kp (thn (ha pos pins s1 σ H1 _ I1 q) fun us s2 ⟨vs,H2,I2,r,q2⟩=>⟨I2.l_,?_⟩) (bJ hst.1) (jS hst.2)
 exact A9 (us:= .ref a::us) (vs:= .ref a::vs) F (hr.mono hk) b .nil (Quiet.pass X) I2 (.cons rfl r) (by rw [List.append_nil];exact q2)
theorem ow {CX:pz} [Quiet CX] {pl:Sem Bool} (he:PE X o ta) (c:cE X.K X.mg x C) (G:cC X.prog X.w X.K X.mg X.base CX C m k ps sp) (hr:cz n X.A) (hk:k≤n)
  (
   ht:eval (.Call (.Attribute o m apos) [] [] pos) X.env=(do
   let ov←eval o X.env
   standAt apos.atName
   let (f,first)←holding [ov] (getMethod ov m pl)
   callWith pos f first (backTo pos (starEach [] X.env)) (backToKw pos (keywordEach [] X.env))):=by rfl):
  PE X (.Call (.Attribute o m apos) [] [] pos) (Pp C m sp ta AO):=by
 obtain ⟨f,fd,F,hm,b⟩:=G
 intro pins s σ H Q I h
 refine PySem.W.methodCall_KW (pl:=pl) (thn (he pins s σ H _ I h) fun u s1 ⟨x,H1,I1,rx,a,ex,dx,fs,ea,l,q⟩=>?_) ht
 subst ex
 obtain rfl:u=Value.ref a:=rx
 refine r6 I1 ea c.cl hm l ?_
 exact PySem.W.callWith_K0 (first:=[.ref a]) I1.l_ hm.kp (A9 (us:=[.ref a]) (vs:=[.ref a]) F (hr.mono hk) b .nil (Quiet.pass X) I1 (.cons rfl .nil) q)
theorem rT {CX:pz} [Quiet CX] (c:cE X.K X.mg x C) (G:cC X.prog X.w X.K X.mg X.base CX C "__init__" k ps sp) (hr:cz n X.A) (hk:k+1≤n) (hg:Gl X x) (ha:PA X (e::es) t)
  (hdb:(x == ("__debug__" : Str))=false:=by decide) (h:(e::es).any isStar=false:=by rfl):PE X (.Call (.Name x p) (e::es) [] pos) (Ey C sp [] E0 t):=by
 obtain ⟨f,fd,F,hm,b⟩:=G
 rw [List.any_cons,Bool.or_eq_false_iff] at h
 exact EM ⟨c.mks,hm.at_,hm.fn,c.kp⟩ F (hr.mono hk) hg c.JP b .nil (Quiet.pass X) ha hdb (bJ h.1) (jS h.2)
end
def RQ (K:PySem.W.Frag) (p:Addr) (i:Int) (H:Hp) (Q:VK):Option HO→Prop
 |some (.lst xs)=> ∃v,sH xs i=some v∧Q v H
 |some (.tup xs)=> ∃v,sH xs i=some v∧Q v H
 |_=>yb K (.ref p) (.int i) H Q
def Kc (K:PySem.W.Frag):R2:=fun x y H Q=>match x,y with
 | .ref p,.int i=>RQ K p i H Q (H p)
 |x,y=>yb K x y H Q
theorem Hr {K:PySem.W.Frag} {p:Addr} {i:Int} {H:Hp} {Q:VK}:Kc K (.ref p) (.int i) H Q=RQ K p i H Q (H p):=rfl
theorem Hq {K:PySem.W.Frag} {z:Str} {i:Int} {H:Hp} {Q:VK}:Kc K (.str z) (.int i) H Q=yb K (.str z) (.int i) H Q:=rfl
theorem K3 {K:PySem.W.Frag} {p:Addr} {i:Int} {H:Hp} {Q:VK} {xs:List V}:RQ K p i H Q (some (.lst xs))= ∃v,sH xs i=some v∧Q v H:=rfl
theorem K2 {K:PySem.W.Frag} {p:Addr} {i:Int} {H:Hp} {Q:VK} {xs:List V}:RQ K p i H Q (some (.tup xs))= ∃v,sH xs i=some v∧Q v H:=rfl
theorem K4 {K:PySem.W.Frag} {p:Addr} {i:Int} {H:Hp} {Q:VK} (h:RQ K p i H Q (H p)):yb K (.ref p) (.int i) H Q:=by
 unfold RQ at h
 split at h
 ·rename_i xs e;obtain ⟨v,a,b⟩:=h;exact CI (bU.of e) a b
 ·rename_i xs e;obtain ⟨v,a,b⟩:=h;exact xO (iD.of e) a b
 ·exact h
theorem cV {X:Cx} (K:PySem.W.Frag) (h:X.K=K):C8 X (Kc K):=C8.imp (Iw K h) fun x y H Q h=>by
 unfold Kc at h
 split at h
 ·exact K4 h
 ·exact h
theorem tZ {α:Type} {xs:List α} {i:Nat} {x:α} (h:xs[i]?=some x):sH xs (i:Int)=some x:=by
 have hl:i<xs.length:=(List.getElem?_eq_some_iff.mp h).1
 unfold sH Gs
 rw [if_pos (by omega),if_pos (by omega)]
 exact h
theorem C6 {α:Type} {a:α} {l:List α}:sH (a::l) 0=some a:=tZ (i:=0) rfl
theorem C5 {α:Type} {a b:α} {l:List α}:sH (a::b::l) 1=some b:=tZ (i:=1) rfl
theorem aa1 {α:Type} {a b c:α} {l:List α}:sH (a::b::c::l) 2=some c:=tZ (i:=2) rfl
theorem aa0 {α:Type} {a b c d:α} {l:List α}:sH (a::b::c::d::l) 3=some d:=tZ (i:=3) rfl
theorem aaZ {α:Type} {a b c d e:α} {l:List α}:sH (a::b::c::d::e::l) 4=some e:=tZ (i:=4) rfl
theorem aaY {α:Type} {a b c d e f:α} {l:List α}:sH (a::b::c::d::e::f::l) 5=some f:=tZ (i:=5) rfl
def gO (K:PySem.W.Frag) (n:Nat) (t:y7) (a:Addr) (σ:St) (H:Hp) (Q:St→Hp→Prop):Option HO→Prop
 |some (.tup xs)=>xs.length=n∧t xs σ H Q
 |_=> ∃xs,iD K H a xs∧xs.length=n∧t xs σ H Q
def aaK (K:PySem.W.Frag) (n:Nat) (t:y7):TG:=fun v σ H Q=>match v with
 | .ref a=>gO K n t a σ H Q (H a)
 |_=>False
theorem GB {K:PySem.W.Frag} {n:Nat} {t:y7} {a:Addr} {σ:St} {H:Hp} {Q:St→Hp→Prop}:aaK K n t (.ref a) σ H Q=gO K n t a σ H Q (H a):=rfl
theorem Rg {K:PySem.W.Frag} {n:Nat} {t:y7} {a:Addr} {σ:St} {H:Hp} {Q:St→Hp→Prop} {xs:List V}:gO K n t a σ H Q (some (.tup xs))=(xs.length=n∧t xs σ H Q):=rfl
def Io (K:PySem.W.Frag) (p:Addr) (H:Hp) (Q:VK):Option HO→Prop
 |some (.lst xs)=>Q (.int xs.length) H
 |some (.tup xs)=>Q (.int xs.length) H
 |_=>vW K [.ref p] H Q
def Ao (K:PySem.W.Frag):List V→Hp→VK→Prop:=fun xs H Q=>match xs with
 | [.ref p]=>Io K p H Q (H p)
 |xs=>vW K xs H Q
theorem FT {K:PySem.W.Frag} {p:Addr} {H:Hp} {Q:VK}:Ao K [.ref p] H Q=Io K p H Q (H p):=rfl
theorem FR {K:PySem.W.Frag} {z:Str} {H:Hp} {Q:VK}:Ao K [.str z] H Q=vW K [.str z] H Q:=rfl
theorem Im {K:PySem.W.Frag} {p:Addr} {H:Hp} {Q:VK} {xs:List V}:Io K p H Q (some (.lst xs))=Q (.int xs.length) H:=rfl
theorem Il {K:PySem.W.Frag} {p:Addr} {H:Hp} {Q:VK} {xs:List V}:Io K p H Q (some (.tup xs))=Q (.int xs.length) H:=rfl
theorem dq {X:Cx} (K:PySem.W.Frag) (h:X.K=K):bQ X (.builtin "len") (Ao K):=bQ.imp (lE K h) fun xs H Q h=>by
 unfold Ao at h
 split at h
 ·
  rename_i p
  unfold Io at h
  split at h
  ·rename_i xs e;exact ⟨xs,.inl (bU.of e),h⟩
  ·rename_i xs e;exact ⟨xs,.inr (iD.of e),h⟩
  ·exact h
 ·exact h
def D2 (K:PySem.W.Frag) (p:Addr) (n:String) (H:Hp) (Q:VK):Option HO→Prop
 |some (.lst _)=>if n = "list" then Q (.bl true) H else mB K [.ref p,.ty n] H Q
 |some (.tup _)=>if n = "tuple" then Q (.bl true) H else mB K [.ref p,.ty n] H Q
 |_=>mB K [.ref p,.ty n] H Q
def vX (K:PySem.W.Frag):List V→Hp→VK→Prop:=fun xs H Q=>match xs with
 | [.ref p,.ty n]=>D2 K p n H Q (H p)
 |xs=>mB K xs H Q
theorem fz {X:Cx} (K:PySem.W.Frag) (h:X.K=K):bQ X (.builtin "isinstance") (vX K):=bQ.imp (fw K h) fun xs H Q h=>by
 unfold vX at h
 split at h
 ·
  rename_i p n
  unfold D2 at h
  split at h
  ·
   rename_i xs e
   split at h
   ·rename_i c;subst c;exact Com.Iz e h
   ·exact h
  ·
   rename_i xs e
   split at h
   ·rename_i c;subst c;exact Com.E1 e h
   ·exact h
  ·exact h
 ·exact h
theorem F1 {K:PySem.W.Frag} {p:Addr} {n:String} {H:Hp} {Q:VK}:vX K [.ref p,.ty n] H Q=D2 K p n H Q (H p):=rfl
theorem IB {K:PySem.W.Frag} {p:Addr} {H:Hp} {Q:VK} {xs:List V}:D2 K p "tuple" H Q (some (.tup xs))=Q (.bl true) H:=by simp [D2]
theorem IC {K:PySem.W.Frag} {p:Addr} {H:Hp} {Q:VK} {xs:List V}:D2 K p "list" H Q (some (.lst xs))=Q (.bl true) H:=by simp [D2]
theorem Km {K:PySem.W.Frag} {i:Int} {n:String} {H:Hp} {Q:VK}:vX K [.int i,.ty n] H Q=mB K [.int i,.ty n] H Q:=rfl
theorem Ko {K:PySem.W.Frag} {i:Bool} {n:String} {H:Hp} {Q:VK}:vX K [.bl i,.ty n] H Q=mB K [.bl i,.ty n] H Q:=rfl
theorem Kk {K:PySem.W.Frag} {i:Str} {n:String} {H:Hp} {Q:VK}:vX K [.str i,.ty n] H Q=mB K [.str i,.ty n] H Q:=rfl
theorem Kl {K:PySem.W.Frag} {n:String} {H:Hp} {Q:VK}:vX K [.non,.ty n] H Q=mB K [.non,.ty n] H Q:=rfl
theorem Rk {l:List V} {N:List V→Prop}:(∃xs,some (HO.lst l)=some (HO.lst xs)∧N xs)=N l:=by
 apply propext;constructor
 ·rintro ⟨xs,e,h⟩;cases e;exact h
 ·exact fun h=>⟨l,rfl,h⟩
theorem Ll {l:List V} {k:Int} {N:List V→Nat→Prop}:(∃xs j,some (HO.lst l)=some (HO.lst xs)∧Gs xs.length k=some j∧N xs j)= ∃j,Gs l.length k=some j∧N l j:=by
 apply propext;constructor
 ·rintro ⟨xs,j,e,h⟩;cases e;exact ⟨j,h⟩
 ·rintro ⟨j,h⟩;exact ⟨l,j,rfl,h⟩
def cm (p:Addr) (H H':Hp):Prop:= ∀b o,H b=some o→b≠p→H' b=some o
theorem cm.refl {p:Addr} {H:Hp}:cm p H H:=fun _ _ h _=>h
theorem cm.upd {p:Addr} {H:Hp} {o:HO}:cm p H (upd H p o):=fun b x hb hne=>by rw [ak hne];exact hb
theorem cm.write {p:Addr} {H H':Hp} {o:HO} (h:cm p H H'):cm p H (L2.upd H' p o):=fun b x hb hne=>by rw [ak hne];exact h b x hb hne
theorem cm.new {p q:Addr} {H H':Hp} {o:HO} (h:cm p H H') (hq:H' q=none):cm p H (L2.upd H' q o):=fun b x hb hne=>by
 rw [ak (av (h b x hb hne) hq)];exact h b x hb hne
theorem cm.trans {p:Addr} {H H1 H2:Hp} (h:cm p H H1) (h2:cm p H1 H2):cm p H H2:=fun b x hb hne=>h2 b x (h b x hb hne) hne
theorem cm.same {p:Addr} {H H1 H2:Hp} (h:cm p H H1) (h2:aW H1 H2):cm p H H2:=fun b x hb hne=>h2 b x (h b x hb hne)
end L2
namespace MeterM
noncomputable def mn (a b:Int):Int:=if b<a then b else a
noncomputable def hf (w:Int):Int:=if 1<w / 2 then w / 2 else 1
noncomputable def k1 (m k:Int) (s:Int×Int):Int×Int:=if s.1=m then s else if s.1<k then (s.1+1,s.2) else if s.2+1=s.1 then (s.1+1,0) else (s.1,s.2+1)
noncomputable def kn (m k:Int):Nat→Int×Int→Int×Int
 |0,s=>s
 |n+1,s=>k1 m k (kn m k n s)
def Inb (m:Int) (s:Int×Int):Prop:=1≤s.1∧s.1≤m∧0≤s.2∧s.2<s.1
end MeterM
namespace WaysM
noncomputable def lb (x:Nat):Nat:=x - (x &&& (x - 1))
noncomputable def low (t b:Int):Int×Int:=(t / (lb (t.toNat |||b.toNat):Nat),b / (lb (t.toNat |||b.toNat):Nat))
end WaysM
namespace L2
open PySem PySem.Spec PyProof.Rows
def Bd (n:Nat) (x:Int):Prop:=x.natAbs<2 ^ n
end L2
namespace L2
end L2
namespace WaysI
open PySem L2
end WaysI
namespace L2
open PySem PySem.Spec PyProof.Rows
def swO (i j:Nat) (D:Ends) (σ:St) (H:Hp):Option HO→Prop
 |some (.tup [a,b])=>D.nx ((σ.set j (some b)).set i (some a)) H
 |_=>False
def swV (i j:Nat) (D:Ends) (σ:St) (v:V) (H:Hp):Prop:=match v with
 | .ref p=>swO i j D σ H (H p)
 |_=>False
def tSw (i j:Nat) (te:TE):TS:=fun D σ H=>te σ H fun v H1=>swV i j D σ v H1
theorem EA {i j:Nat} {D:Ends} {σ:St} {p:Addr} {H:Hp}:swV i j D σ (.ref p) H=swO i j D σ H (H p):=rfl
theorem EB {i j:Nat} {D:Ends} {σ:St} {H:Hp} {a b:V}:swO i j D σ H (some (.tup [a,b]))=D.nx ((σ.set j (some b)).set i (some a)) H:=rfl
theorem yx: ∀{ns:List Int} {its:List Value},Vals (ns.map V.int) its→IntsAre its ns
 | [],_,.nil=> .nil
 |n::ns,_,.cons r rr=>by
  obtain ⟨t,rfl⟩:=r
  exact .cons n t (yx rr)
def Sf (K:PySem.W.Frag):List V→Hp→VK→Prop:=fun xs H Q=>match xs with
 | [.int i,.int j]=>Q (.int (if j<i then j else i)) H
 | [.ref p]=> ∃ns:List Int,bU K H p (ns.map V.int)∧0<ns.length∧∀M,M∈ns→(∀a,a∈ns→M≤a)→Q (.int M) H
 |_=>False
def Hm (K:PySem.W.Frag):List V→Hp→VK→Prop:=fun xs H Q=>match xs with
 | [.int i,.int j]=>Q (.int (if i<j then j else i)) H
 | [.ref p]=> ∃ns:List Int,bU K H p (ns.map V.int)∧0<ns.length∧∀M,M∈ns→(∀a,a∈ns→a≤M)→Q (.int M) H
 |_=>False
theorem GJ {X:Cx} (K:PySem.W.Frag) (hK:X.K=K) (hc:X.calm=true):bQ X (.builtin "max") (Hm K):=by
 subst hK
 intro pins s σ H xs us Q I rs q
 unfold Hm at q
 split at q
 ·exact GK hc pins s σ H _ us Q I rs q
 ·
  rename_i p
  obtain ⟨u,rfl,ru⟩:=vals1 rs
  cases ru
  obtain ⟨ns,hS,hne,q⟩:=q
  obtain ⟨its,r,pl,hz⟩:=I.list hS
  have hi:=yx r
  have hl:=pl.isList
  obtain ⟨xs,e⟩:=hi.allInts.items
  have hns:ns=xs.toList.map (·.1):=by rw [←hi.numsOf,←nums_intItems,←e]
  have hsz:0<xs.size:=by
   have h3:=hne;rw [hns,List.length_map,Array.length_toList] at h3;exact h3
  rw [e] at hl
  refine max_intList (I.ok.hd hc) hl hsz fun v h' tk hv hk=>?_
  obtain ⟨t,rfl⟩:=intItems_at hv
  obtain ⟨h1,h2⟩:=argBest_gt (numAt xs) (xs.size - 1)
  refine ⟨.int _,H,I.kept (t':=tk) hk,⟨t,rfl⟩,q _ ?_ fun a ha=>?_⟩
  ·rw [hns,numAt_eq];exact getD_mem (by rw [List.length_map,Array.length_toList];omega)
  ·
   rw [hns] at ha
   obtain ⟨j,hj,rfl⟩:=mem_getD ha
   rw [List.length_map,Array.length_toList] at hj
   rw [←numAt_eq];exact h2 j (by omega)
 ·exact q.elim
theorem FK {K:PySem.W.Frag} {p:Addr} {H:Hp} {Q:VK}:Sf K [.ref p] H Q= ∃ns:List Int,bU K H p (ns.map V.int)∧0<ns.length∧∀M,M∈ns→(∀a,a∈ns→M≤a)→Q (.int M) H:=rfl
theorem FO {K:PySem.W.Frag} {p:Addr} {H:Hp} {Q:VK}:Hm K [.ref p] H Q= ∃ns:List Int,bU K H p (ns.map V.int)∧0<ns.length∧∀M,M∈ns→(∀a,a∈ns→a≤M)→Q (.int M) H:=rfl
noncomputable abbrev ik (i:Int):Key:=Sum.inl i
def Lp (neg:Bool) (i:Int) (H:Hp) (Q:VK):Option HO→Prop
 |some (.dK kvs)=>Q (.bl (if neg then !(iG kvs (ik i)).isSome else (iG kvs (ik i)).isSome)) H
 |_=>False
def abA (neg:Bool):R2:=fun y x H Q=>match y,x with
 | .int i,.ref a=>Lp neg i H Q (H a)
 |_,_=>False
theorem HH {neg:Bool} {i:Int} {a:Addr} {H:Hp} {Q:VK}:abA neg (.int i) (.ref a) H Q=Lp neg i H Q (H a):=rfl
theorem Rx {i:Int} {H:Hp} {Q:VK} {kvs:List (Key×V)}:Lp true i H Q (some (.dK kvs))=Q (.bl (!(iG kvs (ik i)).isSome)) H:=rfl
theorem Ry {i:Int} {H:Hp} {Q:VK} {kvs:List (Key×V)}:Lp false i H Q (some (.dK kvs))=Q (.bl (iG kvs (ik i)).isSome) H:=rfl
def dgO (i:Int) (H:Hp) (Q:VK):Option HO→Prop
 |some (.dK kvs)=> ∃v,iG kvs (ik i)=some v∧Q v H
 |_=>False
def So:R2:=fun x y H Q=>match x,y with
 | .ref a,.int i=>dgO i H Q (H a)
 |_,_=>False
theorem F7 {i:Int} {a:Addr} {H:Hp} {Q:VK}:So (.ref a) (.int i) H Q=dgO i H Q (H a):=rfl
theorem aaU {i:Int} {H:Hp} {Q:VK} {kvs:List (Key×V)}:dgO i H Q (some (.dK kvs))= ∃v,iG kvs (ik i)=some v∧Q v H:=rfl
def dpO (a:Addr) (i:Int) (v:V) (H:Hp) (N:Hp→Prop):Option HO→Prop
 |some (.dK kvs)=>kvs.length<sizeLine∧N (upd H a (.dK (putK kvs (ik i) v)))
 |_=>False
def LN (x y v:V) (H:Hp) (N:Hp→Prop):Prop:=match x,y with
 | .ref a,.int i=>dpO a i v H N (H a)
 |_,_=>False
def PJ (to ti tv:TE):TS:=fun D σ H=>tv σ H fun v H1=>to σ H1 fun x H2=>ti σ H2 fun y H3=>LN x y v H3 (D.nx σ)
theorem F5 {i:Int} {a:Addr} {v:V} {H:Hp} {N:Hp→Prop}:LN (.ref a) (.int i) v H N=dpO a i v H N (H a):=rfl
theorem aaS {a:Addr} {i:Int} {v:V} {H:Hp} {N:Hp→Prop} {kvs:List (Key×V)}:dpO a i v H N (some (.dK kvs))=(kvs.length<sizeLine∧N (upd H a (.dK (putK kvs (ik i) v)))):=rfl
def QR:Option HO→Prop
 |some (.dK _)=>True
 |_=>False
def Rt (a:Addr) (i:Int) (H:Hp) (Q:VK):Option HO→Prop
 |some (.dK kvs)=> ∃v,iG kvs (ik i)=some v∧Q v (upd H a (.dK (Fc kvs (ik i))))
 |_=>False
def LO (x y:V) (H:Hp) (Q:VK):Prop:=match x,y with
 | .ref a,.int i=>Rt a i H Q (H a)
 |_,_=>False
def PV (x:V) (H:Hp):Prop:=match x with
 | .ref a=>QR (H a)
 |_=>False
def Pu (to ti:TE):TE:=fun σ H Q=>to σ H fun x H1=>PV x H1∧ti σ H1 fun y H2=>LO x y H2 Q
theorem Hu {a:Addr} {H:Hp}:PV (.ref a) H=QR (H a):=rfl
theorem QQ {kvs:List (Key×V)}:QR (some (.dK kvs))=True:=rfl
theorem F6 {i:Int} {a:Addr} {H:Hp} {Q:VK}:LO (.ref a) (.int i) H Q=Rt a i H Q (H a):=rfl
theorem Rr {a:Addr} {i:Int} {H:Hp} {Q:VK} {kvs:List (Key×V)}:Rt a i H Q (some (.dK kvs))= ∃v,iG kvs (ik i)=some v∧Q v (upd H a (.dK (Fc kvs (ik i)))):=rfl
section
variable {X:Cx} {i o e value:Expr} {ti to te tv:TE} {pos pos' apos cpos:Pos}
end
def Qr (K:PySem.W.Frag) (p:Addr) (H:Hp) (Q:VK):Option HO→Prop
 |some (.dK kvs)=>Q (.int kvs.length) H
 |_=>Ao K [.ref p] H Q
def Sh (K:PySem.W.Frag):List V→Hp→VK→Prop:=fun xs H Q=>match xs with
 | [.ref p]=>Qr K p H Q (H p)
 |xs=>Ao K xs H Q
theorem FQ {K:PySem.W.Frag} {p:Addr} {H:Hp} {Q:VK}:Sh K [.ref p] H Q=Qr K p H Q (H p):=rfl
theorem Qq {K:PySem.W.Frag} {p:Addr} {H:Hp} {Q:VK} {kvs:List (Key×V)}:Qr K p H Q (some (.dK kvs))=Q (.int kvs.length) H:=rfl
def LM (vs:List V) (H:Hp) (Q:VK):Prop:=match vs with
 | [.int i,.int j]=>(-(2 ^ 62)≤i∧i<2 ^ 62∧-(2 ^ 62)≤j∧j<2 ^ 62)∧∀p,H p=none→Q (.ref p) (upd H p (.rng i j))
 |_=>False
def RU (ta:TA):TE:=fun σ H Q=>ta σ H fun vs H1=>LM vs H1 Q
theorem FJ {i j:Int} {H:Hp} {Q:VK}:LM [.int i,.int j] H Q=((-(2 ^ 62)≤i∧i<2 ^ 62∧-(2 ^ 62)≤j∧j<2 ^ 62)∧∀p,H p=none→Q (.ref p) (upd H p (.rng i j))):=rfl
def Ik (K:PySem.W.Frag) (p:Addr) (H:Hp) (Q:VK):Option HO→Prop
 |some (.rng i j)=>(-(2 ^ 62)≤i∧i<2 ^ 62∧-(2 ^ 62)≤j∧j<2 ^ 62)∧(j - i).toNat≤1000000∧∀l,H l=none→Q (.ref l) (upd H l (.lst (Cr i (j - i).toNat)))
 |_=>rK K [.ref p] H Q
def PN (K:PySem.W.Frag):List V→Hp→VK→Prop:=fun xs H Q=>match xs with
 | [.ref p]=>Ik K p H Q (H p)
 |xs=>rK K xs H Q
theorem DC {K:PySem.W.Frag} {p:Addr} {H:Hp} {Q:VK}:PN K [.ref p] H Q=Ik K p H Q (H p):=rfl
theorem Gq {K:PySem.W.Frag} {p:Addr} {H:Hp} {Q:VK} {i j:Int}:Ik K p H Q (some (.rng i j))=((-(2 ^ 62)≤i∧i<2 ^ 62∧-(2 ^ 62)≤j∧j<2 ^ 62)∧(j - i).toNat≤1000000∧∀l,H l=none→Q (.ref l) (upd H l (.lst (Cr i (j - i).toNat)))):=rfl
def abj (K:PySem.W.Frag) (te:TE):TE:=fun σ H Q=>te σ H fun x H1=> ∃a xs,x = .ref a∧bU K H1 a xs∧∀(ys:List V) (p:Addr),(∀v∈ys,v∈xs)→ys.length≤xs.length→H1 p=none→Q (.ref p) (upd H1 p (.lst ys))
section
variable {X:Cx} {K:PySem.W.Frag}
end
def J2 (r r' r'':R2) (ta tb tc td:TE):TE:=fun σ H Q=>ta σ H fun x H1=>tb σ H1 fun y H2=>r x y H2 fun z H3=> ∃k,z = .bl k∧
 (if k=true then tc σ H3 fun w' H4=>r' y w' H4 fun z2 H5=> ∃k2,z2 = .bl k2∧(if k2=true then td σ H5 fun w2 H6=>r'' w' w2 H6 Q else Q (.bl false) H5) else Q (.bl false) H3)
section
variable {X:Cx} {a b c d:Expr} {ta tb tc td:TE} {pos:Pos}
end
noncomputable abbrev sk (s:Str):Key:=Sum.inr s
def sgO (z:Str) (H:Hp) (Q:VK):Option HO→Prop
 |some (.dK kvs)=> ∃v,iG kvs (sk z)=some v∧Q v H
 |_=>False
def Se:R2:=fun x y H Q=>match x,y with
 | .ref a,.str z=>sgO z H Q (H a)
 |_,_=>False
theorem FI {z:Str} {a:Addr} {H:Hp} {Q:VK}:Se (.ref a) (.str z) H Q=sgO z H Q (H a):=rfl
theorem R7 {z:Str} {H:Hp} {Q:VK} {kvs:List (Key×V)}:sgO z H Q (some (.dK kvs))= ∃v,iG kvs (sk z)=some v∧Q v H:=rfl
def spO (a:Addr) (z:Str) (v:V) (H:Hp) (N:Hp→Prop):Option HO→Prop
 |some (.dK kvs)=>kvs.length<sizeLine∧N (upd H a (.dK (putK kvs (sk z) v)))
 |_=>False
def LL (x y v:V) (H:Hp) (N:Hp→Prop):Prop:=match x,y with
 | .ref a,.str z=>spO a z v H N (H a)
 |_,_=>False
def PF (to ti tv:TE):TS:=fun D σ H=>tv σ H fun v H1=>to σ H1 fun x H2=>ti σ H2 fun y H3=>LL x y v H3 (D.nx σ)
theorem FH {z:Str} {a:Addr} {v:V} {H:Hp} {N:Hp→Prop}:LL (.ref a) (.str z) v H N=spO a z v H N (H a):=rfl
theorem R6 {a:Addr} {z:Str} {v:V} {H:Hp} {N:Hp→Prop} {kvs:List (Key×V)}:spO a z v H N (some (.dK kvs))=(kvs.length<sizeLine∧N (upd H a (.dK (putK kvs (sk z) v)))):=rfl
section
variable {X:Cx} {i o e value:Expr} {ti to te tv:TE} {pos pos' apos cpos:Pos}
end
noncomputable def Ite (a:Addr):It:=
 ⟨fun i H=> ∃xs x,H a=some (.lst xs)∧xs[i]?=some x,fun i H v H'=> ∃p x,(∀xs,H a=some (.lst xs)→xs[i]?=some x)∧H p=none∧v = .ref p∧H'=upd H p (.tup [.int i,x]),fun i H=> ∃xs,H a=some (.lst xs)∧xs.length≤i⟩
section
variable {X:Cx} {pins:List (Addr×Obj)} {σ:St} {H:Hp} {s:Shared} {h':Heap}
theorem Inv.tupd {t':Nat} {p:Addr} {ch:List Addr} {xs:List V} (I:Inv X pins σ H s) (k: ∀b o,b ∉ ch→s.heap.get? b=some o→h'.get? b=some o) (f: ∀b∈ch,xH X pins H b)
  (hp:s.heap.objs.size≤p) (new:bW X.prog X.w (upd H p (.tup xs)) h' p (.tup xs)):Inv X pins σ (upd H p (.tup xs)) {s with heap:=h',toks:=t'}:=by
 have hn:=I.hok.fresh hp
 have nit: ∀b u,H b=some u→b ∉ ch:=fun b u q z=>by rw [(f b z).1] at q;cases q
 refine I.step (g':=s.gens) (d':=s.drawn) (ch:=ch) (fun b hb=>?_) (fun b o _ _ hc q _=>k b o hc q) (fun b o _ _ hc q _=>⟨o.slots,k b o hc q⟩)
  (fun b o _ q n=>by rw [ak (Nat.ne_of_lt (Nat.lt_of_lt_of_le (Heap.lt_size q) hp))];exact n)
  (fun b o hc q=>⟨o,k b o hc q⟩) (fun b xs q=>by rw [ak (av q hn)];exact q) (fun b u xs q=>by rw [ak (av q hn)];exact q) (fun b ps q=>⟨#[],by rw [ak (av q hn),q];simp⟩) (fun m hm=>?_) (fun b u q=>?_) I.bare
 ·
  obtain ⟨e0,e1,e2,e3,e4,e5⟩:=f b hb
  exact ⟨e3,e1,e4,e5⟩
 ·
  obtain ⟨o,es,ep,ho,r⟩:=hm
  exact ⟨o,es,ep,k _ o (fun z=>(f _ z).2.1 rfl) ho,r⟩
 ·
  by_cases hb:b=p
  ·subst hb;rw [aa] at q;cases q;exact new
  ·
   rw [ak hb] at q
   refine (I.hok b u q).stay (fun c v hc q2=>?_) (fun c q=>by rw [ak (av q hn)];exact q) fun c xs q=>by rw [ak (av q hn)];exact q
   rcases hc with z|z
   ·subst z;exact k _ v (nit _ u q) q2
   ·exact k c v (nit c _ z) q2
end
theorem Fn {P:Program} {w:World} {K:PySem.W.Frag} {elts:List Expr} {x1} {pos:Pos} (a e it:Addr) (ne:e≠it):Turn P w K (.Tuple elts x1 pos) (Ite a) [e,it] e (fun i h=>(∃old,IsEnum h e it ((i:Nat):Int) old)∧h.IsListIter it a i) where
 mem:=by simp
 obj:=fun i h st b hb=>by
  obtain ⟨⟨old,he⟩,⟨o,ho,c,d⟩⟩:=st
  have q:b=e∨b=it:=by simpa using hb
  rcases q with rfl|rfl
  ·exact ⟨_,he,fun v z=>by cases z⟩
  ·exact ⟨o,ho,fun v z=>by rw [d] at z;cases z⟩
 keep:=fun i h h' st k=>⟨st.1.elim fun old he=>⟨old,k e (by simp) _ he⟩,st.2.at fun o q=>k it (by simp) o q⟩
 item:=by
  intro X hP hw hK hc i pins s σ H E I hf st hg
  subst hP hw hK
  obtain ⟨⟨old,he⟩,hit⟩:=st
  obtain ⟨xs,x,hq,hx⟩:=hg
  obtain ⟨z,its,n,r,eo⟩:=I.hok a _ hq
  obtain ⟨u,hu,ru⟩:=r.get hx
  have fe:=hf e (by simp)
  have fi:=hf it (by simp)
  have hes:e<s.heap.objs.size:=Heap.lt_size he
  have his:it<s.heap.objs.size:=by obtain ⟨o,ho,_⟩:=hit;exact Heap.lt_size ho
  have hp:=I.hok.fresh (Nat.le_refl s.heap.objs.size)
  refine wpAny_pyNext_enum_item he hit ⟨_,eo,rfl,n,rfl⟩ (x:=u) (by simpa using hu) ne fun h1 heo hit1 ht1 hz1 hk1=>⟨_,rfl,wpAny_letOwnedTupleGo_enum heo fun h2 he2 hs2=>?_⟩
  replace hs2:Heap.SameBut e h1 h2:=hs2
  have ht2:h2.get? s.heap.objs.size=some {cls:= .type "tuple",data:= .seq #[.int i s.toks,u]}:=(hs2.2 _ (Nat.ne_of_gt hes)).trans ht1
  refine ⟨.ref s.heap.objs.size,upd H s.heap.objs.size (.tup [.int i,x]),?_,rfl,⟨_,x,fun ys hy=>by rw [hq] at hy;cases hy;exact hx,hp,rfl,rfl⟩,⟨⟨u,?_⟩,?_⟩,fun b hb=>?_⟩
  ·
   refine I.tupd (t':=s.toks+1) (ch:=[e,it]) (fun b o bn q=>(hs2.2 b (fun z=>bn (by simp [z]))).trans (hk1 b o (fun z=>bn (by simp [z])) (fun z=>bn (by simp [z])) q)) hf (Nat.le_refl _) ⟨by show 2≤sizeLine;rw [sizeLine_eq];decide,[.int i s.toks,u],.cons ⟨_,rfl⟩ (.cons ru .nil),?_⟩
   exact ⟨_,ht2,rfl,_,rfl⟩
  ·
   have:((i+1:Nat):Int)=(i:Int)+1:=by push_cast;rfl
   rw [this];exact he2
  ·exact hit1.extBut hs2.extBut (Ne.symm ne)
  ·
   have q:b=e∨b=it:=by simpa using hb
   rcases q with rfl|rfl
   ·rw [ak (Nat.ne_of_lt hes)];exact fe.1
   ·rw [ak (Nat.ne_of_lt his)];exact fi.1
 done:=by
  intro X hP hw hK hc i pins s σ H E I hf st hg
  subst hP hw hK
  obtain ⟨⟨old,he⟩,hit⟩:=st
  obtain ⟨xs,hq,hx⟩:=hg
  obtain ⟨z,its,n,r,eo⟩:=I.hok a _ hq
  have hl:=r.length
  obtain ⟨f0,f1,f2,f3,f4,f5⟩:=hf it (by simp)
  exact wpAny_pyNext_enum_end (I.ok.hd hc) he hit ⟨_,eo,rfl,n,rfl⟩ (by simp;omega) fun h' eb=>⟨rfl,I.turned (t':=s.toks) (fun b o hb q=>eb b o hb q) f0 f1 f3 f4 f5⟩
 self:=fun _ _ _ _ _ st h=>st.1.elim fun old he=>wpAny_pyIter_enum he h
theorem boot_enumerate:bootBuiltins "enumerate" = some (.type "enumerate"):=by decide+kernel
def RR (x:V) (H1:Hp) (R:It→Hp→Prop):Prop:=match x with
 | .ref a=> ∃xs,H1 a=some (.lst xs)∧R (Ite a) H1
 |_=>False
def CG (ta:TA):TI:=fun σ H R=>ta σ H fun vs H1=>match vs with
 | [x]=>RR x H1 R
 |_=>False
section
variable {X:Cx} {elts:List Expr} {x1:_} {tpos:Pos}
theorem EJ {a:Expr} {ta:TA} {p pos:Pos} (hg:Gl X "enumerate") (hm:X.mg "enumerate" = none) (ha:PA X [a] ta) (hs:starEach [a] X.env= [(false,eval a X.env)]:=by rfl):PI X (.Tuple elts x1 tpos) (.Call (.Name "enumerate" p) [a] [] pos) (CG ta):=by
 intro pins s σ H R I h
 refine Call_ (uX I hg hm boot_enumerate (PyProof.Rows.callWith_type1 (thn (ha pos pins s σ H _ I h) fun us s1 ⟨vs,H1,I1,r1,q1⟩=>?_) hs rfl))
 cases r1 with
 |nil=>exact q1.elim
 | @cons x u xs us r rr=>
  cases rr with
  |cons _ _=>exact q1.elim
  |nil=>
   replace q1:RR x H1 R:=q1
   unfold RR at q1
   split at q1
   ·
    rename_i b
    obtain ⟨ys,hb,q⟩:=q1
    cases r
    obtain ⟨z,its,n,rv,eo⟩:=I1.hok b _ hb
    refine call_enumerate_1 eo fun h' he hit hz hk=>?_
    refine wpAny_pyIter_enum he ?_
    refine ⟨_,[s1.heap.objs.size+1,s1.heap.objs.size],_,_,H1,rfl,I1.kept (t':=s1.toks) fun b o e=>hk b o e,Fn b (s1.heap.objs.size+1) s1.heap.objs.size (Nat.succ_ne_self _),⟨⟨_,he⟩,hit⟩,fun c hc=>?_,q⟩
    have e:c=s1.heap.objs.size+1∨c=s1.heap.objs.size:=by simpa using hc
    rcases e with rfl|rfl
    ·exact I1.CL (Nat.le_succ _) (I1.hok.fresh (Nat.le_succ _))
    ·exact I1.CL (Nat.le_refl _) (I1.hok.fresh (Nat.le_refl _))
   ·exact q1.elim
end
section
variable {K:PySem.W.Frag} {g:TG} {tb:TS} {D:Ends} {σ:St} {H:Hp} {ta:TA}
theorem Aj:Df (CG ta) g tb D σ H=ta σ H fun vs H1=>match vs with
 | [x]=>RR x H1 fun J H2=>forR J g tb D σ H2
 |_=>False:=by
 unfold Df CG
 rfl
theorem E7 {a:Addr} {xs:List V} (hS:H a=some (.lst xs)) (Pv:Nat→St→Hp→Prop) (h0:Pv 0 σ H) (hl: ∀i σ H,i≤xs.length→Pv i σ H→H a=some (.lst xs))
  (hs: ∀i x p σ H,xs[i]?=some x→Pv i σ H→H p=none→g (.ref p) σ (upd H p (.tup [.int i,x])) fun σ2 H2=>tb {D with nx:=Pv (i+1),ct:=Pv (i+1),bk:=D.nx} σ2 H2) (hd: ∀σ H,Pv xs.length σ H→D.nx σ H):
  RR (.ref a) H fun J H2=>forR J g tb D σ H2:=by
 refine ⟨xs,hS,fun i m σ H=>m=xs.length - i∧i≤xs.length∧Pv i σ H,⟨_,rfl,Nat.zero_le _,h0⟩,?_⟩
 rintro i m σ H ⟨rfl,hi,p⟩
 by_cases hlt:i<xs.length
 ·
  refine .inr ⟨⟨xs,_,hl i σ H hi p,List.getElem?_eq_getElem hlt⟩,Pv (i+1),fun σ' H' p'=>⟨xs.length - (i+1),by omega,rfl,hlt,p'⟩,fun v H' y=>?_⟩
  obtain ⟨q,x,hx,hq,rfl,rfl⟩:=y
  exact hs i x q σ H (hx xs (hl i σ H hi p)) p hq
 ·
  have e:i=xs.length:=by omega
  subst e
  exact .inl ⟨⟨xs,hl _ σ H hi p,Nat.le_refl _⟩,hd σ H p⟩
end
def Rv (a:Addr) (i:Int) (z:V) (H:Hp) (Q:VK):Option HO→Prop
 |some (.dK kvs)=>(∀v,iG kvs (ik i)=some v→Q v (upd H a (.dK (Fc kvs (ik i)))))∧(iG kvs (ik i)=none→Q z H)
 |_=>False
def HG (x y z:V) (H:Hp) (Q:VK):Prop:=match x,y with
 | .ref a,.int i=>Rv a i z H Q (H a)
 |_,_=>False
def Pw (to ti tz:TE):TE:=fun σ H Q=>to σ H fun x H1=>PV x H1∧ti σ H1 fun y H2=>tz σ H2 fun z H3=>HG x y z H3 Q
theorem DL {i:Int} {a:Addr} {z:V} {H:Hp} {Q:VK}:HG (.ref a) (.int i) z H Q=Rv a i z H Q (H a):=rfl
theorem Ru {a:Addr} {i:Int} {z:V} {H:Hp} {Q:VK} {kvs:List (Key×V)}:Rv a i z H Q (some (.dK kvs))=((∀v,iG kvs (ik i)=some v→Q v (upd H a (.dK (Fc kvs (ik i)))))∧(iG kvs (ik i)=none→Q z H)):=rfl
section
variable {X:Cx} {o e f:Expr} {to te tf:TE} {apos cpos:Pos}
end
section
variable {X:Cx} {pos:Pos}
structure QE (X:Cx) (e:Expr) (t:TE):Prop where
 h:PE X e t
structure QS (X:Cx) (st:Stmt) (t:TS):Prop where
 h:PS X st t
structure Fl (X:Cx) (l:List Stmt) (t:TS):Prop where
 h:y_ X l t
theorem fL {st:Stmt} {t:TS} (h1:QS X st t):Fl X [st] t:=⟨aM h1.h⟩
theorem a_ {st:Stmt} {rest:List Stmt} {t u:TS} (h1:QS X st t) (h2:Fl X rest u):Fl X (st::rest) (Pl t u):=⟨aH h1.h h2.h⟩
theorem xJ {st:Stmt} {rest:List Stmt} {t u:TS} (h1:QS X st t) (h2:Fl X rest u):Fl X (st::rest) (RZ t u):=⟨KC h1.h h2.h⟩
theorem cf {i:Nat} {x:Str} {e:Expr} {te:TE} {pos':Pos} (hN:X.N.Nodup) (hi:X.N[i]?=some x) (hx:Loc X.env.scope x) (he:QE X e te) (h:oP e=false:=by rfl) (hf:X.fn x=true∨X.env.scope.names.lookup x=some .local:=by first|exact .inl rfl|exact .inr rfl|assumption):
  QS X (.Assign [.Name x pos'] e pos) (Dk te (o6 i)):=⟨bo hN hi hx he.h h hf⟩
end
section
variable {X:Cx} {elts:List Expr} {x1:_} {tpos:Pos}
end
section
variable {nv:Nat} {ix:List Nat} {g:TG} {tt:TT} {te:TE} {tb:TS} {D:Ends} {σ:St} {H:Hp} {ta:TA} {Q:VK}
theorem Dj:vV nv ix (CG ta) g tt te σ H Q=ta σ H fun vs H1=>match vs with
 | [x]=>RR x H1 fun J H2=>j6 J g tt te (c6 nv ix σ) H2 fun ys H'=>ys.length≤sizeLine∧∀l,H' l=none→Q (.ref l) (upd H' l (.lst ys))
 |_=>False:=by
 unfold vV CG
 rfl
theorem Ec {ix:List Nat} {σ:St}:c6 2 ix σ=none::none::ix.map fun i=>(σ[i]?).join:=rfl
end
section
variable {K:PySem.W.Frag} {g:TG} {tt:TT} {te:TE} {H:Hp} {σ:St} {Q:List V→Hp→Prop}
theorem JD {J:It} {n:Nat} (Pv:Nat→List V→St→Hp→Prop) (h0:Pv 0 [] σ H) (hz:n≤sizeLine) (hl: ∀i ys σ H,Pv i ys σ H→ys.length≤i) (go: ∀i ys σ H,i<n→Pv i ys σ H→J.go i H) (stop: ∀ys σ H,Pv n ys σ H→J.stop n H)
  (step: ∀i ys σ H x H'',i<n→Pv i ys σ H→J.yld i H x H''→g x σ H'' fun σ2 H2=>tt σ2 H2 fun b H3=>if b=true then te σ2 H3 fun y H4=>Pv (i+1) (ys++ [y]) σ2 H4 else Pv (i+1) ys σ2 H3) (q: ∀ys σ H,Pv n ys σ H→Q ys H):j6 J g tt te σ H Q:=by
 refine ⟨fun i m ys σ' H'=>i≤n∧m=n - i∧Pv i ys σ' H',⟨n,Nat.zero_le _,rfl,h0⟩,?_⟩
 rintro i m ys σ' H' ⟨hi,rfl,hp⟩
 by_cases e:i=n
 ·
  subst e
  exact .inl ⟨stop _ _ _ hp,q _ _ _ hp⟩
 ·
  have hlt:i<n:=by omega
  refine .inr ⟨go i _ _ _ hlt hp,by have:=hl _ _ _ _ hp;omega,fun ys' σ'' H''=>Pv (i+1) ys' σ'' H'',fun ys' σ'' H'' p'=>⟨n - (i+1),by omega,by omega,rfl,p'⟩,fun x H'' y=>step i ys σ' H' x H'' hlt hp y⟩
theorem Lv {lo:Int} {n:Nat} (Pv:Nat→List V→St→Hp→Prop) (h0:Pv 0 [] σ H) (hz:n≤sizeLine) (hl: ∀i ys σ H,Pv i ys σ H→ys.length≤i)
  (step: ∀(i:Nat) ys σ H,i<n→Pv i ys σ H→g (.int (lo+i)) σ H fun σ2 H2=>tt σ2 H2 fun b H3=>if b=true then te σ2 H3 fun y H4=>Pv (i+1) (ys++ [y]) σ2 H4 else Pv (i+1) ys σ2 H3) (q: ∀ys σ H,Pv n ys σ H→Q ys H):j6 (GR lo n) g tt te σ H Q:=by
 refine JD Pv h0 hz hl (fun i _ _ _ hi _=>hi) (fun _ _ _ _=>Nat.le_refl _) (fun i ys σ H x H'' hi hp y=>?_) q
 obtain ⟨e,rfl⟩:=y
 subst e
 exact step i ys σ _ hi hp
theorem tQ {a:Addr} {xs:List V} (hS:bU K H a xs) (hz:xs.length≤sizeLine) (Pv:Nat→List V→St→Hp→Prop) (h0:Pv 0 [] σ H) (hl: ∀i ys σ H,Pv i ys σ H→ys.length≤i) (hk: ∀i ys σ H,Pv i ys σ H→bU K H a xs)
  (step: ∀(i:Nat) x ys σ H,xs[i]?=some x→Pv i ys σ H→g x σ H fun σ2 H2=>tt σ2 H2 fun b H3=>if b=true then te σ2 H3 fun y H4=>Pv (i+1) (ys++ [y]) σ2 H4 else Pv (i+1) ys σ2 H3) (q: ∀ys σ H,Pv xs.length ys σ H→Q ys H):Co K (.ref a) H fun J H2=>j6 J g tt te σ H2 Q:=by
 refine .inl ⟨xs,hS,JD (n:=xs.length) Pv h0 hz hl (fun i ys σ H hi hp=>⟨xs,xs[i],hk _ _ _ _ hp,by simp [hi]⟩) (fun ys σ H hp=>⟨xs,hk _ _ _ _ hp,Nat.le_refl _⟩) (fun i ys σ H x H'' hi hp y=>?_) q⟩
 obtain ⟨e,hx⟩:=y
 subst e
 exact step i x ys σ _ (hx xs (hk _ _ _ _ hp)) hp
end
def Kr:V→List V→Hp→VK→Prop:=fun x vs H Q=> ∃l xs i y,x = .ref l∧vs= [.int i,y]∧H l=some (.lst xs)∧0≤i∧i<2 ^ 63∧xs.length<sizeLine∧Q .non (upd H l (.lst (xs.take i.toNat++y::xs.drop i.toNat)))
theorem Ar {X:Cx}:MtM X "list.insert" Kr:=by
 intro pins s σ H x vs v us Q I rx rv h
 obtain ⟨l,xs,i,y,rfl,rfl,hH,h1,h2,hz,q⟩:=h
 cases rx
 cases rv with
 |cons r rr=>
  cases rr with
  | @cons _ u _ _ ru rn=>
  cases rn
  obtain ⟨t,rfl⟩:=r
  obtain ⟨z,its,n,r,hl,e⟩:=I.Ij hH
  refine call_meets F.slot_list_insert ⟨_,e,rfl⟩ F.entry_list_insert (F.args_list_insert_3 _ _ _) (AutoSeq1.list_insert_list_int_val_1 l its.toArray n i t u (by rw [fitsIndex_both (by omega) h2];decide) (by rw [List.size_toArray];omega)) ⟨e,?_⟩
  refine ⟨.non,_,I.lset (its':=its.take i.toNat++u::its.drop i.toNat) hH e ?_ ?_ ?_,rfl,q⟩
  ·
   have hk: ¬i<0:=by omega
   simp only [if_neg hk,List.size_toArray]
   by_cases c:i.toNat≤its.length
   ·
    rw [Nat.min_eq_left c]
    apply Array.ext'
    simp
    exact List.take_of_length_le (by rw [List.length_drop];omega)
   ·
    rw [Nat.min_eq_right (by omega)]
    apply Array.ext'
    have e1:its.take i.toNat=its:=List.take_of_length_le (by omega)
    have e2:its.drop i.toNat= []:=List.drop_eq_nil_of_le (by omega)
    simp [e1,e2]
  ·exact (r.take _).append (.cons ru (r.drop _))
  ·
   rw [List.length_append,List.length_take,List.length_cons,List.length_drop]
   omega
def GP (h:Heap) (e:Addr) (cls:Value) (dx tb:Option Addr):Prop:=
 ∃oe vs,h.get? e=some oe∧oe.cls=cls∧oe.dict=dx∧oe.data = .fields vs∧1<vs.size∧(match tb with
  |none=>vs[1]?=some .none
  |some T=>vs[1]?=some (.ref T)∧T≠e∧∃oT ts,h.get? T=some oT∧oT.data = .fields ts∧ts[3]?=some .none)
structure O9 (S:List Addr) (e:Addr) (tb:Option Addr) (h h':Heap):Prop where
 keep: ∀b o,b ∉ S→b≠e→(∀T,tb=some T→b≠T)→h.get? b=some o→h'.get? b=some o
 slot: ∀b o,b∈S→h.get? b=some o→∃sl,h'.get? b=some {o with slots:=sl}
 there: ∀b o,h.get? b=some o→∃o',h'.get? b=some o'
section
variable {M:Model} {A:Around} {E:Value→Shared→Prop} {s:Shared}
theorem qe (f:Array Value→Array Value) (o:Obj):(Obj.mapFields f o).dict=o.dict:=by
 unfold Obj.mapFields
 split<;>rfl
noncomputable abbrev Fy (top:Value) (L:Addr) (ps:List Value):Obj:={cls:= .type "traceback",dict:=none,data:= .fields ([top,.ref L,.none,rawInt L,.none]++(if ps.isEmpty then List.replicate 6 Value.none else ps)).toArray}
theorem E_ {base:Heap} {env:Env} {outer:List Env} {L e:Addr} {oe:Obj} {vs:Array Value} {top:Value} {had:Bool} {Q:Unit→Shared→Prop}
  (hfr:A.frames=some (env::outer)) (hl:s.heap.FunFrames base (env::outer)) (hf:env.frame=some L)
  (he:s.heap.get? e=some oe) (hd:oe.data = .fields vs) (hsz:1<vs.size)
  (h: ∀h',GP h' e oe.cls oe.dict (some s.heap.objs.size)→O9 ((env::outer).filterMap (·.frame)) e none s.heap h'→Q () {s with heap:=h'}):
  wpAny M A (do let a←frameOf env;let pl←entryPlaceOf L had;let b←EntryCells.newEntry top a .none (rawInt L) .none pl;setField (.ref e) 1 b) (fun _ s'=>wpAny M A (setFlight (.ref e) none) Q E s') E s:=by
 have out:e ∉ (env::outer).filterMap (·.frame):=fun hm=>by
  obtain ⟨_,o',ho',no⟩:=hl.mem hm
  cases he.symm.trans ho'
  exact no vs hd
 refine wpAny_bind (wpAny_frameOf_fun hfr hl hf fun k ks=>wpAny_bind (wpAny_entryPlaceOf fun ps hps=>?_))
 unfold EntryCells.newEntry newFields
 refine wpAny_bind (wpAny_newObj_type ?_ (hps.sizeOk5 _ _ _ _ _))
 have ke:k.get? e=some oe:=(ks.2.1 e out).trans he
 have far:k.objs.size≠e:=Nat.ne_of_gt (Heap.lt_size ke)
 have esz:k.objs.size=s.heap.objs.size:=ks.1
 have de:=Obj.data_mapFields hd (·.setIfInBounds 1 (Value.ref k.objs.size))
 have e1:=Heap.get?_push_of_some (h:=k) (Fy top L ps) ke
 have e2:=Heap.get?_update_self (Obj.mapFields (·.setIfInBounds 1 (Value.ref k.objs.size))) e1 (Obj.isFreed_of_fields de)
 have r2:=(Heap.get?_update_other (k.push (Fy top L ps)) (Obj.mapFields (·.setIfInBounds 1 (Value.ref k.objs.size))) (Ne.symm far)).trans (Heap.get?_push_size k rfl)
 refine wpAny_setField e1 hd hsz ?_
 unfold setFlight
 refine wpAny_bind (wpAny_field e2 de (x:= .ref k.objs.size) (by simp [hsz]) ?_)
 rw [if_pos (by simp)]
 have r3:=Heap.get?_update_self (Obj.mapFields (·.setIfInBounds 3 ((none:Option Addr).elim Value.none fun f=>rawInt f))) r2 (Obj.isFreed_of_fields (Obj.data_mapFields rfl _))
 refine wpAny_setField r2 rfl (by simp only [List.size_toArray,List.length_append,List.length_cons,List.length_nil]<;>omega) (h _ ?_ ?_)
 ·
  rw [←esz]
  refine ⟨_,_,?_,Obj.cls_mapFields _ _,qe _ _,de,by simp [hsz],by simp [hsz],far,_,_,r3,Obj.data_mapFields rfl _,?_⟩
  ·rw [Heap.get?_update_other _ _ far];exact e2
  ·first|(simp;done)|(rcases hps with rfl|⟨_,_,_,_,_,_,_,rfl⟩<;>simp)
 ·have keep: ∀b o,b≠e→k.get? b=some o→(((k.push (Fy top L ps)).update e (Obj.mapFields (·.setIfInBounds 1 (Value.ref k.objs.size)))).update k.objs.size (Obj.mapFields (·.setIfInBounds 3 ((none:Option Addr).elim Value.none fun f=>rawInt f)))).get? b=some o:=fun b o ne hb=>by
   rw [Heap.get?_update_other _ _ (Nat.ne_of_gt (Heap.lt_size hb)),Heap.get?_update_other _ _ (Ne.symm ne)]
   exact Heap.get?_push_of_some _ hb
  refine ⟨fun b o hS ne _ hb=>keep b o ne ((ks.2.1 b hS).trans hb),fun b o hS hb=>?_,fun b o hb=>?_⟩
  ·
   obtain ⟨sl,q⟩:=ks.2.2 b o hb
   exact ⟨sl,keep b _ (fun z=>out (z▸hS)) q⟩
  ·
   by_cases z:b=e
   ·
    subst z
    rw [Heap.get?_update_other _ _ far]
    exact ⟨_,e2⟩
   ·
    obtain ⟨sl,q⟩:=ks.2.2 b o hb
    exact ⟨_,keep b _ z q⟩
theorem HZ {base:Heap} {env:Env} {outer:List Env} {L e:Addr} {cls:Value} {dx tb:Option Addr} {Q:Unit→Shared→Prop}
  (hfr:A.frames=some (env::outer)) (hl:s.heap.FunFrames base (env::outer)) (hf:env.frame=some L) (hx:GP s.heap e cls dx tb)
  (h: ∀h',GP h' e cls dx (some s.heap.objs.size)→O9 ((env::outer).filterMap (·.frame)) e tb s.heap h'→Q () {s with heap:=h'}):wpAny M A (noteFrame (.ref e) env) (fun _ s'=>wpAny M A (setFlight (.ref e) none) Q E s') E s:=by
 obtain ⟨oe,vs,he,rfl,rfl,hd,hsz,ht⟩:=hx
 unfold noteFrame
 simp only [hf]
 cases tb with
 |none=>
  refine wpAny_bind (wpAny_field he hd ht ?_)
  rw [if_neg (by decide)]
  exact E_ hfr hl hf he hd hsz h
 |some T=>
  obtain ⟨h1,ne,oT,ts,hT,dT,h3⟩:=ht
  have apart: ∀b o,s.heap.get? b=some o→(∀ws,o.data≠ .fields ws)→b≠T:=fun b o hb no z=>by
   subst z
   cases hb.symm.trans hT
   exact no ts dT
  have out:T ∉ (env::outer).filterMap (·.frame):=fun hm=>by
   obtain ⟨_,o',ho',no⟩:=hl.mem hm
   exact apart T o' ho' no rfl
  refine wpAny_bind (wpAny_field he hd h1 ?_)
  rw [if_pos (by simp)]
  refine wpAny_bind (wpAny_field hT dT h3 ?_)
  rw [if_neg (by simp [rawInt])]
  refine wpAny_bind (wpAny_setField hT dT (Array.getElem?_eq_some_iff.mp h3).1 ?_)
  have oth: ∀b,b≠T→(s.heap.update T (Obj.mapFields (·.setIfInBounds 3 Value.none))).get? b=s.heap.get? b:=fun b z=>Heap.get?_update_other _ _ (Ne.symm z)
  have self:=Heap.get?_update_self (Obj.mapFields (·.setIfInBounds 3 Value.none)) hT (Obj.isFreed_of_fields (Obj.data_mapFields dT _))
  have fr:=hl.of_keeps (h':=s.heap.update T (Obj.mapFields (·.setIfInBounds 3 Value.none))) fun b o hb no=>⟨o,(oth b (apart b o hb no)).trans hb,rfl⟩
  refine E_ (oe:=oe) (vs:=vs) hfr fr hf ((oth e (Ne.symm ne)).trans he) hd hsz fun h' x k=>?_
  have sz:(s.heap.update T (Obj.mapFields (·.setIfInBounds 3 Value.none))).objs.size=s.heap.objs.size:=Heap.size_update ..
  change GP h' e oe.cls oe.dict (some (s.heap.update T (Obj.mapFields (·.setIfInBounds 3 Value.none))).objs.size) at x
  rw [sz] at x
  refine h h' x ⟨fun b o hS z zT hb=>k.keep b o hS z (fun _ q=>by cases q) ((oth b (zT T rfl)).trans hb),fun b o hS hb=>k.slot b o hS ((oth b (fun q=>out (q▸hS))).trans hb),fun b o hb=>?_⟩
  by_cases q:b=T
  ·exact q▸k.there _ _ self
  ·exact k.there b o ((oth b q).trans hb)
theorem Gr {base:Heap} {env:Env} {outer:List Env} {L e:Addr} {cls:Value} {dx tb:Option Addr} {Q:Unit→Shared→Prop}
  (hfr:A.frames=some (env::outer)) (hl:s.heap.FunFrames base (env::outer)) (hf:env.frame=some L) (hx:GP s.heap e cls dx tb)
  (h: ∀h',GP h' e cls dx (some s.heap.objs.size)→O9 ((env::outer).filterMap (·.frame)) e tb s.heap h'→Q () {s with heap:=h'}):wpAny M A (leaving env (.ref e)) Q E s:=wpAny_bind (HZ hfr hl hf hx h)
end
def fA (P:Program) (w:World):pz:=fun outer H s E e s'=> ∃ea cls dx T H',e = .ref ea∧s'.os=s.os∧AllBare s'.gens∧Un (frs outer) [] H H' s.heap s'.heap∧xG P w H' s'.heap∧GP s'.heap ea cls dx (some T)∧
 (s.heap.get? ea=none∧s.heap.get? T=none∧H' ea=none∧H' T=none)∧E cls dx H'
noncomputable instance {P:Program} {w:World}:Quiet (fA P w):=⟨fun X pins σ H s e s' I h=>by
 obtain ⟨_,_,_,_,_,_,_,_,_,_,_,_,h⟩:=h
 exact h.elim⟩
structure Es (X:Cx) (pins:List (Addr×Obj)) (σ:St) (H:Hp) (s:Shared) (ea:Addr) (cls:Value) (dx tb:Option Addr):Prop where
 inv:Inv X pins σ H s
 ex:GP s.heap ea cls dx tb
 n0:X.s₀.heap.get? ea=none
 nH:H ea=none
 tbs: ∀T,tb=some T→X.s₀.heap.get? T=none∧H T=none
 apart: ∀p∈X.pn++pins,p.1≠ea∧∀T,tb=some T→p.1≠T
def Rz (X:Cx) (E:XK):Prop:= ∀pins σ H s ea cls dx tb,Es X pins σ H s ea cls dx tb→E cls dx H→X.xe (.ref ea) s
section
variable {P:Program} {w:World} {K:PySem.W.Frag} {mg:Str→Option Value} {base:Heap} {N:List Str} {qual:Str} {scope:Scope} {f:Addr} {cd:Value} {A:Around} {outer:List Env} {s:Shared} {H:Hp} {E:XK}
theorem q_:Rz (vL (fA P w) P w K mg base N qual scope f cd A outer s H E) E:=by
  intro pins σ H1 s1 ea cls dx tb F hE
  have I:=F.inv
  have hst:(vL (fA P w) P w K mg base N qual scope f cd A outer s H E).stack=envOfC qual scope s.heap.objs.size f cd::outer:=rfl
  show wpAny (model P w) (A.deeper (envOfC qual scope s.heap.objs.size f cd)) (leaving (envOfC qual scope s.heap.objs.size f cd) (.ref ea)) _ _ s1
  refine Gr (base:=base) (L:=s.heap.objs.size) (by have:=I.ok.frames;exact this) (by have:=I.stack;exact this) rfl F.ex fun h' hx hk=>?_
  have hfree: ∀b∈frs (envOfC qual scope s.heap.objs.size f cd::outer),H1 b=none:=I.sN
  have hin: ∀b,b∈(envOfC qual scope s.heap.objs.size f cd::outer).filterMap (·.frame)→b=s.heap.objs.size∨b∈frs outer:=fun b hb=>by
    rw [List.filterMap_cons] at hb
    exact (List.mem_cons.mp hb).elim .inl .inr
  have hne: ∀b o,s.heap.get? b=some o→b≠ea∧(∀T,tb=some T→b≠T)∧b≠s.heap.objs.size:=fun b o e=>
    ⟨
     fun q=>(by have h1:s.heap.get? ea=none:=F.n0;rw [q,h1] at e;cases e),
     fun T hT q=>(by have h1:s.heap.get? T=none:=(F.tbs T hT).1;rw [q,h1] at e;cases e),
     Nat.ne_of_lt (Heap.lt_size e)⟩
  have B:Un (frs outer) [] H H1 s.heap s1.heap:=I.base
  refine ⟨ea,cls,dx,_,H1,rfl,I.os,I.bare,⟨fun b o q n hb hx=>?_,fun b o q n hb hx=>?_,B.free,fun b o q hx=>?_,B.tups,B.frzs,B.tbls⟩,fun b o q=>?_,hx,⟨F.n0,?_,F.nH,I.hok.fresh (Nat.le_refl _)⟩,hE⟩
  ·
    obtain ⟨n1,n2,n3⟩:=hne b o q
    exact hk.keep b o (fun hm=>(hin b hm).elim n3 hb) n1 n2 (B.keep b o q n hb hx)
  ·
    obtain ⟨sl,e⟩:=B.slot b o q n hb hx
    obtain ⟨sl',e'⟩:=hk.slot b _ (by rw [List.filterMap_cons];exact List.mem_cons_of_mem _ hb) e
    exact ⟨sl',e'⟩
  ·
    obtain ⟨o',e⟩:=B.there b o q hx
    exact hk.there b o' e
  · have some_ne: ∀c u,H1 c=some u→c ∉ (envOfC qual scope s.heap.objs.size f cd::outer).filterMap (·.frame)∧c≠ea∧∀T,tb=some T→c≠T:=fun c u e=>
      ⟨fun hm=>(by rw [hfree c hm] at e;cases e),fun z=>(by rw [z,F.nH] at e;cases e),fun T hT z=>(by rw [z,(F.tbs T hT).2] at e;cases e)⟩
    refine (I.hok b o q).stay (fun c u hc e=>?_) (fun c e=>e) (fun c xs e=>e)
    rcases hc with z|z
    ·
      obtain ⟨m1,m2,m3⟩:=some_ne b o q
      subst z
      exact hk.keep _ u m1 m2 m3 e
    ·
      obtain ⟨m1,m2,m3⟩:=some_ne c _ z
      exact hk.keep c u m1 m2 m3 e
  · exact Heap.get?_none_of_le I.sz
end
section
variable {X:Cx} {E:XK}
theorem Jt {pins:List (Addr×Obj)} {σ:St} {H:Hp} {s s':Shared} {e:Value} (hex:X.ex= []) (I:Inv X pins σ H s) (h:fA X.prog X.w X.stack H s E e s'): ∃ea cls dx T H',e = .ref ea∧Es X pins σ H' s' ea cls dx (some T)∧E cls dx H':=by
 obtain ⟨ea,cls,dx,T,H',rfl,os,bare,un,hok,hx,⟨n1,n2,n3,n4⟩,hE⟩:=h
 have I':=I.call' (ch:=[]) os un hok bare (fun b z=>absurd z (by simp))
 have old: ∀b,s.heap.get? b=none→X.s₀.heap.get? b=none:=fun b hb=>by
  cases q:X.s₀.heap.get? b with
  |none=>rfl
  |some o=>
   obtain ⟨o',e⟩:=I.base.there b o q (by rw [hex];simp)
   rw [hb] at e;cases e
 refine ⟨ea,cls,dx,T,H',rfl,⟨I',hx,old ea n1,n3,(fun T' e=>by cases e;exact ⟨old T n2,n4⟩),fun p hp=>⟨fun z=>?_,fun T' e z=>?_⟩⟩,hE⟩
 ·
  have q:=(I.pin p hp).1
  rw [z,n1] at q;cases q
 ·
  cases e
  have q:=(I.pin p hp).1
  rw [z,n2] at q;cases q
theorem Rz.passes (hex:X.ex= []) (h:Rz X E):Passes (fA X.prog X.w) X E:=fun pins σ H s e s' I q=>by
 obtain ⟨ea,cls,dx,T,H',rfl,F,hE⟩:=Jt hex I q
 exact h _ _ _ _ _ _ _ _ F hE
end
theorem b8.fnX {P:Program} {w:World} {K:PySem.W.Frag} {mg:Str→Option Value} {base:Heap} {CX:pz} {x:Str} {st:Stmt} {N ps:List Str} {k:Nat} {sp:Sp} (F:b8 K mg x st) (S:aU N ps (aA st))
  (hb: ∀(kV doc pm:Value) (an:Option Addr) (cdv ct:Value) (us:List Value),us.length=ps.length→bindArgs (PySem.W.fnOf x x (di st) (b7 st) (aA st) .none kV doc pm an cdv ct) ⟨us,[]⟩=pure (ps.zip us))
  (len: ∀vs H Q E,sp vs H Q E→vs.length=ps.length)
  (
   hbody: ∀(f:Addr) (cdv:Value) (A:Around) (outer:List Env) (s:Shared) (H:Hp) (vs:List V) (Q:VK) (E:XK),cz k (A.deeper (envOfC x (aA st) s.heap.objs.size f cdv))→sp vs H Q E→
   ∃t,y_ (vL CX P w K mg base N x (aA st) f cdv A outer s H E) (b7 st) t∧t {nx:=fun _ H'=>Q .non H',rt:=Q} (start N vs) H):FnAt P w K mg base CX x (k+1) ps sp:=by
 obtain ⟨f,fd,F,hm⟩:=F
 have bd:=F.binds hb
 have kp:=F.kp
 obtain ⟨oc,od,kV,doc,pm,an,cdv,ct,osl,rfl,lk,hcd⟩:=F.ex
 exact ⟨f,_,E8 lk hcd S len fun A outer s H vs Q E hr hsp=>hbody f cdv A outer s H vs Q E hr hsp,hm,kp,bd,oc,od,osl,lk⟩
theorem bW.there {P:Program} {w:World} {H:Hp} {h:Heap} {a:Addr} {o:HO} (x:bW P w H h a o): ∃u,h.get? a=some u:=by
 cases o with
 |lst xs=>obtain ⟨_,_,_,_,e⟩:=x;exact ⟨_,e⟩
 |tup xs=>obtain ⟨_,_,_,⟨o,e,_⟩⟩:=x;exact ⟨_,e⟩
 |dK kvs=>obtain ⟨_,_,_,_,o,_,_,e,_⟩:=x;exact ⟨_,e⟩
 |dT kvs=>obtain ⟨_,_,_,_,o,_,_,e,_⟩:=x;exact ⟨_,e⟩
 |set S n=>obtain ⟨o,_,_,_,e,_⟩:=x;exact ⟨_,e⟩
 |ins C dx fs=>obtain ⟨_,_,_,e,_⟩:=x;exact ⟨_,e⟩
 |own y=>obtain ⟨_,e⟩:=x;exact ⟨_,e⟩
 |xd fs=>obtain ⟨_,⟨_,_,_,e,_⟩,_⟩:=x;exact ⟨_,e⟩
 |rng lo hi=>obtain ⟨_,_,_,e⟩:=x;exact ⟨_,e⟩
 |frz ob u=>obtain ⟨e,_⟩:=x;exact ⟨_,e⟩
 |tbl ps=>exact ⟨_,(show h.get? a=some _ from x)⟩
 |met f y=>exact ⟨_,(show h.get? a=some _ from x)⟩
 |ext φ=>obtain ⟨_,e,_⟩:=x;exact e
noncomputable abbrev AM:List Value:=[.type "ValueError",.type "Exception",.type "BaseException",.type "object"]
structure y4 (K:PySem.W.Frag) (mg:Str→Option Value) (x:Str) (C R:Addr) (ini:Option Value):Prop where
 JP:mg x=some (.ref C)
 cls: ∃N nm q bs sn sub ab col dd k0 k1 k2 k3 k5,K.lookup C=some (excClassObj nm q C N bs (.ref R::AM) true sn sub ab col dd k0 k1 k2 k3 k5 "ValueError.__new__")∧PySem.W.nsOkIn K N=true∧PySem.W.nsIn K N "__init__" = some ini∧PySem.W.nsIn K N "__setattr__" = some none
 road: ∃c0 dd cd sl,K.lookup R=some {cls:=c0,dict:=dd,data:= .cls cd,slots:=sl}∧PySem.W.nsOkIn K cd.ns=true∧PySem.W.nsIn K cd.ns "__init__" = some none∧PySem.W.nsIn K cd.ns "__setattr__" = some none
theorem Eu {K:PySem.W.Frag} {h:Heap} {mg:Str→Option Value} {x:Str} {C R N:Addr} {ini:Option Value} {nm q:Str} {bs:List Value} {sn:List Str} {sub:List Value} {ab:Bool} {col:Option Bool} {dd ddR:Option Addr} {k0 k1 k2 k3 k5:Option Value} {c0:Value} {cd:ClassData} {sl:Array (Option Value)} (X:K.In h) (G:h.Ns mainGlobals mg)
  (a:PySem.W.nsIn K mainGlobals x=some (some (.ref C))) (l:K.lookup C=some (excClassObj nm q C N bs (.ref R::AM) true sn sub ab col dd k0 k1 k2 k3 k5 "ValueError.__new__")) (o:PySem.W.nsOkIn K N=true) (i:PySem.W.nsIn K N "__init__" = some ini) (t:PySem.W.nsIn K N "__setattr__" = some none)
  (l':K.lookup R=some {cls:=c0,dict:=ddR,data:= .cls cd,slots:=sl}) (o':PySem.W.nsOkIn K cd.ns=true) (i':PySem.W.nsIn K cd.ns "__init__" = some none) (t':PySem.W.nsIn K cd.ns "__setattr__" = some none):y4 K mg x C R ini:=
 ⟨PySem.W.mg_of X G a,⟨N,nm,q,bs,sn,sub,ab,col,dd,k0,k1,k2,k3,k5,l,o,i,t⟩,⟨c0,ddR,cd,sl,l',o',i',t'⟩⟩
theorem y4.tail {K:PySem.W.Frag} {mg:Str→Option Value} {x:Str} {C R:Addr} {ini:Option Value} (c:y4 K mg x C R ini) {h:Heap} (X:K.In h):OwnTail h AM (.ref R::AM):=by
 obtain ⟨c0,dd,cd,sl,l,o,i,_⟩:=c.road
 exact .own (X _ _ l) (.of_isNs (PySem.W.isNs_of_in X o)) (PySem.W.nsMap_none_of_in X o i) .base
section
variable {X:Cx} {E:XK}
theorem Lj {pins:List (Addr×Obj)} {σ:St} {H:Hp} {s:Shared} {h':Heap} {e:Addr} {cls:Value} {args:List Value} (hex:X.ex= []) (I:Inv X pins σ H s) (hm:Heap.MadeExcOf s.heap h' e cls args):Es X pins σ H {s with heap:=h'} e cls none none:=by
 have hn:=hm.new
 obtain ⟨t,he,_,_⟩:=hm.there
 refine ⟨I.kept (t':=s.toks) hm.keeps,⟨_,_,he,rfl,rfl,rfl,by show 1<6;decide,rfl⟩,?_,?_,(fun T q=>by cases q),fun p hp=>⟨fun z=>?_,fun T q=>by cases q⟩⟩
 ·
  cases q:X.s₀.heap.get? e with
  |none=>rfl
  |some o=>
   obtain ⟨o',e'⟩:=I.base.there e o q (by rw [hex];simp)
   rw [hn] at e';cases e'
 ·
  cases q:H e with
  |none=>rfl
  |some u=>
   obtain ⟨o',e'⟩:=(I.hok e u q).there
   rw [hn] at e';cases e'
 ·
  have q:=(I.pin p hp).1
  rw [z,hn] at q;cases q
def Ex (E:XK) (C:Addr):TS:=fun _ _ H=>E (.ref C) none H
theorem Aq {x:Str} {C R:Addr} {np cpos pos:Pos} (c:y4 X.K X.mg x C R none) (hz:Rz X E) (hc:X.calm=true) (hex:X.ex= []) (hg:Gl X x) (hdb:(x == ("__debug__" : Str))=false:=by decide):
  PS X (.Raise (some (.Call (.Name x np) [] [] cpos)) none pos) (Ex E C):=by
 intro pins s σ H D I h
 obtain ⟨N,nm,q,bs,sn,sub,ab,col,dd,k0,k1,k2,k3,k5,l,o,i,_⟩:=c.cls
 have T:=c.tail I.l_
 refine wpAny_Raise_call_subT PySem.F.excBase_ValueError (T.hasType (by decide+kernel)) (I.ok.hd hc) rfl (PySem.W.nsMap_none_of_in I.l_ o i) (lq I hg c.JP ⟨rfl,evalArgs_nil3 ⟨rfl,Nat.zero_le _,I.l_ _ _ l,.of_isNs (PySem.W.isNs_of_in I.l_ o),T,fun h' e hx=>?_⟩⟩ hdb)
 exact hz _ _ _ _ _ _ _ _ (Lj hex I hx) h
end
section
variable {prog:Program} {w:World} {A:Around} {s:Shared} {K:PySem.W.Frag} {x C R:Addr} {cd:ClassData} {name:Str} {v:Value}
theorem R8 {E:Value→Shared→Prop} {vs:Array Value} {Q:Unit→Shared→Prop} (X:K.In s.heap) (hx:s.heap.get? x=some ⟨.ref C,none,.fields vs,#[]⟩) (hc:PySem.W.clsIn K C=some cd) (hm:cd.mro = .ref C :: .ref R::AM) (hd:cd.hasDict=true)
  (hs:PySem.W.findIn K (.ref C) "__setattr__" = some (some (.builtin "object.__setattr__"))) (ha:PySem.W.findIn K (.ref C) name=some none)
  (h: ∀h' t',h'.get? x=some ⟨.ref C,some s.heap.objs.size,.fields vs,#[]⟩→h'.Ns1 s.heap.objs.size (fun y=>if y=name then some v else none)→(∀b o,b≠x→s.heap.get? b=some o→h'.get? b=some o)→Q () {s with heap:=h',toks:=t'}):
  wpAny (model prog w) A (setAttr (.ref x) name v) Q E s:=by
 have I:PySem.W.InstAt s.heap x ⟨.ref C,none,.fields vs,#[]⟩ C none:=⟨hx,rfl,rfl,True.intro⟩
 have F:=PySem.F.store_object
 have lc:PySem.W.Looks (model prog w) s.heap (classData C) cd:=PySem.W.looks_clsIn X hc
 have sub:PySem.W.Looks (model prog w) s.heap (isInstance (.ref x) (.type "object")) true:=I.type.andThen (PySem.W.looks_mroIn X (by unfold PySem.W.mroIn;rw [hc,Option.bind_some,hm];rfl))
 have mro:PySem.W.Looks (model prog w) s.heap (mroOf (.ref C)) cd.mro:=lc.andThen .now
 refine PySem.W.set_plain X I hs ?_
 refine codeAny_call_builtin F.slot.plain F.entry ?_
 refine @PySem.W.check_slot (model prog w) _ _ {s with toks:=s.toks+1} "object.__setattr__" "object" "__setattr__" (.ref x) [.str name s.toks,v] [] _ F.kind F.split sub (F.args (.ref x) (.str name s.toks) v) ?_
 rw [PySem.W.osa_eq,refuse_eq]
 refine wpAny_bind (wpAny_bind (I.type.here (s:={s with toks:=s.toks+1}) (wpAny_bind (mro.here (s:={s with toks:=s.toks+1}) ?_))))
 rw [hm,refuseLoop_ref,refuseLoop_ref,PySem.F.store_ValueError.passes]
 refine wpAny_pure (wpAny_bind (I.type.here (s:={s with toks:=s.toks+1}) (wpAny_bind ((PySem.W.looks_findIn X ha).here (s:={s with toks:=s.toks+1}) (wpAny_bind (wpAny_pure ?_))))))
 refine wpAny_bind (wpAny_pure (wpAny_bind (wpAny_bind (wpAny_loadPart (s:={s with toks:=s.toks+1}) hx (wpAny_bind (lc.here (s:={s with toks:=s.toks+1}) ?_))))))
 rw [hd,if_neg (by decide)]
 have sx:x≠s.heap.objs.size:=Nat.ne_of_lt (Heap.lt_size hx)
 have h1:(s.heap.push {cls:= .type "dict",data:= .dict #[]}).get? x=some ⟨.ref C,none,.fields vs,#[]⟩:=Heap.get?_push_of_some _ hx
 have h2:=Heap.get?_update_self (fun o:Obj=>{cls:=o.cls,dict:=some s.heap.objs.size,data:=o.data,slots:=o.slots}) h1 rfl
 have h3:((s.heap.push {cls:= .type "dict",data:= .dict #[]}).update x fun o=>{cls:=o.cls,dict:=some s.heap.objs.size,data:=o.data,slots:=o.slots}).get? s.heap.objs.size=some {cls:= .type "dict",data:= .dict #[]}:=
  (Heap.get?_update_other _ _ sx).trans (Heap.get?_push_size _ rfl)
 have hn:((s.heap.push {cls:= .type "dict",data:= .dict #[]}).update x fun o=>{cls:=o.cls,dict:=some s.heap.objs.size,data:=o.data,slots:=o.slots}).Ns s.heap.objs.size (fun _=>none):=
  ⟨_,#[],_,h3,rfl,fun e he=>absurd he (by simp),fun _=>rfl⟩
 show wpAny _ _ (alloc {cls:= .type "dict",data:= .dict #[]} >>= fun d=>update x (fun o=>{cls:=o.cls,dict:=some d,data:=o.data,slots:=o.slots}) >>= fun _=>dictMade (.ref C) x d) _ _ _
 refine wpAny_bind (wpAny_alloc ?_)
 refine wpAny_bind (wpAny_update (s:={s with heap:=s.heap.push {cls:= .type "dict",data:= .dict #[]},toks:=s.toks+1}) h1 ?_)
 refine wpAny_pure ?_
 show wpAny _ _ (Builtin.ObjectAttr.storeInDict s.heap.objs.size (.str name s.toks) name v) _ _ _
 unfold Builtin.ObjectAttr.storeInDict Builtin.ObjectAttr.newKeyGuard
 refine wpAny_bind (wpAny_pure (wpAny_bind (wpAny_nsSet1 (Heap.Ns1.of_empty hn) fun h' n' sb=>?_)))
 obtain ⟨oD,esD,epD,hoD,hdD,hcD⟩:=n'.count (PySem.Within.cons name v PySem.Within.nil)
 refine wpAny_bind (wpAny_lookBehind hoD (by rw [hdD];exact pastItsLine_dict (Nat.le_trans hcD (by rw [List.length_cons,List.length_nil,sizeLine_eq];omega))) ?_)
 refine wpAny_pure (h h' _ ((sb.2 x sx).trans h2) ?_ fun b o ne hb=>?_)
 ·
  obtain ⟨o',es,ep,e1,e2,e3,eu,e4⟩:=n'
  exact ⟨o',es,ep,e1,e2,e3,eu,fun y=>by rw [e4 y]⟩
 ·exact (sb.2 b (Nat.ne_of_lt (Heap.lt_size hb))).trans ((Heap.get?_update_other _ _ (Ne.symm ne)).trans (Heap.get?_push_of_some _ hb))
end
section
variable {prog:Program} {w:World} {A:Around} {E:Value→Shared→Prop} {h:Heap} {g:Array GenState} {d:Drawn} {t:Nat} {os:OsState} {K:PySem.W.Frag}
variable {nm q:Str} {C N:Addr} {bs bm:List Value} {hdct:Bool} {sn:List Str} {sub:List Value} {ab:Bool} {col:Option Bool} {dd:Option Addr} {k0 k1 k2 k3 k5:Option Value}
theorem JZ {rest:List Value} {fI:Addr} {Q:Fin→Shared→Prop} (X:K.In h) (T:OwnTail h AM bm)
  (hC:h.get? C=some (excClassObj nm q C N bs bm hdct sn sub ab col dd k0 k1 k2 k3 k5 "ValueError.__new__")) (hi:PySem.W.findIn K (.ref C) "__init__" = some (some (.ref fI))) (hf:PySem.W.typeIn K (.ref fI)=some (.type "function"))
  (hr:rest.length≤sizeLine)
  (hq: ∀h' e,Heap.MadeExcOf h h' e (.ref C) rest→wpAny (model prog w) A (call (.ref fI) (.ref e::rest)) (fun r s'=>r = .none∧Q (.done (.ret (.ref e))) s') E ⟨h',g,d,t,os⟩):
  wpAny (model prog w) A (Builtin.«type.__call__» ⟨.ref C::rest,[]⟩) Q E ⟨h,g,d,t,os⟩:=by
 have F:=PySem.F.excBase_ValueError
 repeat (first|with_reducible refine wpAny_loadPart_at hC ?_|with_reducible refine wpAny_madeBy_exc hC ?_|wp_step)
 refine codeAny_call_builtin_code (Code.quiet_builtin _ F.quiet) (wpAny_check_new_subT F T hC ?_)
 refine codeAny_exc_new_subT F T hC ?_ hr
 show wpAny _ _ _ _ _ _
 have up: ∀b o,h.get? b=some o→((h.push {cls:= .type "tuple",data:= .seq rest.toArray}).push {cls:= .ref C,data:= .fields #[.ref h.objs.size,.none,.none,.none,.bool false,.none]}).get? b=some o:=fun b o e=>Heap.get?_push_of_some _ (Heap.get?_push_of_some _ e)
 have C2:=up _ _ hC
 have X2:=X.keeps up
 have e2:((h.push {cls:= .type "tuple",data:= .seq rest.toArray}).push {cls:= .ref C,data:= .fields #[.ref h.objs.size,.none,.none,.none,.bool false,.none]}).get? (h.objs.size+1)=some {cls:= .ref C,data:= .fields #[.ref h.objs.size,.none,.none,.none,.bool false,.none]}:=by heap_get
 have t2:((h.push {cls:= .type "tuple",data:= .seq rest.toArray}).push {cls:= .ref C,data:= .fields #[.ref h.objs.size,.none,.none,.none,.bool false,.none]}).get? h.objs.size=some {cls:= .type "tuple",data:= .seq rest.toArray}:=Heap.get?_push_of_some _ (Heap.get?_push_at rfl rfl)
 have made:Heap.MadeExcOf h ((h.push {cls:= .type "tuple",data:= .seq rest.toArray}).push {cls:= .ref C,data:= .fields #[.ref h.objs.size,.none,.none,.none,.bool false,.none]}) (h.objs.size+1) (.ref C) rest:=
  ⟨up,Heap.get?_none_of_le (Nat.le_succ _),h.objs.size,e2,Heap.get?_none_of_le (Nat.le_refl _),t2⟩
 have q2:=hq _ _ made
 have me:(Value.ref C::bm).contains (.ref C)=true:=by simp
 generalize (h.push {cls:= .type "tuple",data:= .seq rest.toArray}).push {cls:= .ref C,data:= .fields #[.ref h.objs.size,.none,.none,.none,.bool false,.none]}=h2 at*
 unfold isInstance
 repeat (first|with_reducible refine wpAny_loadPart_at e2 ?_|(with_reducible refine wpAny_isSubtype_exc C2 ?_;rw [me])|wp_step)
 show wpAny _ _ (typeLookup (.ref C) _) _ _ _
 refine (PySem.W.looks_findIn X2 hi).here (s:=⟨h2,g,d,t,os⟩) ?_
 refine wpAny_holding (wpAny_bind ((PySem.W.bind_fn X2 _ hf).here (s:=⟨h2,g,d,t,os⟩) (wpAny_bind (wpAny_mono q2 (fun r s' hr=>?_) fun _ _ z=>z))))
 obtain ⟨rfl,hQ⟩:=hr
 wp_walk
 exact hQ
theorem RF {rest:List Value} {fI:Addr} {Q:Value→Shared→Prop} (X:K.In h) (T:OwnTail h AM bm)
  (hC:h.get? C=some (excClassObj nm q C N bs bm hdct sn sub ab col dd k0 k1 k2 k3 k5 "ValueError.__new__")) (hi:PySem.W.findIn K (.ref C) "__init__" = some (some (.ref fI))) (hf:PySem.W.typeIn K (.ref fI)=some (.type "function"))
  (hr:rest.length≤sizeLine)
  (hq: ∀h' e,Heap.MadeExcOf h h' e (.ref C) rest→wpAny (model prog w) (A.under (.builtin "type.__call__" ⟨.ref C::rest,[]⟩)) (call (.ref fI) (.ref e::rest)) (fun r s'=>r = .none∧Q (.ref e) s') E ⟨h',g,d,t,os⟩):
  wpAny (model prog w) A (call (.ref C) rest) Q E ⟨h,g,d,t,os⟩:=by
 have f1:=tc_lookup
 have f2:=tc_bind (.ref C)
 have hT:(⟨h,g,d,t,os⟩:Shared).TypeIs (.ref C) "type" :=⟨_,hC,rfl⟩
 refine wpAny_call (codeAny_of_tree ?_)
 show wpAny _ _ (callAny (.ref C) _) _ _ _
 repeat (any_goals (first|assumption|with_reducible refine wpAny_loadPart_at hC ?_|wp_step))
 refine ⟨rfl,?_⟩
 refine codeAny_call_builtin_at (Code.quiet_builtin _ (by decide+kernel)) entry_typeCall (wpAny_check_type_call_sub hC (JZ X T hC hi hf hr fun h' e hm=>?_))
 exact hq h' e hm
theorem J8 {s:Shared} {env:Env} {x:Sem Value} {Q:Flow→Shared→Prop} (hbase:bm.contains (.type "BaseException")=true) (hh:A.handled=none)
  (hx:wpAny (model prog w) A x (fun v s₁=> ∃e dx vs,v = .ref e∧s₁.heap.get? C=some (excClassObj nm q C N bs bm hdct sn sub ab col dd k0 k1 k2 k3 k5 "ValueError.__new__")∧s₁.heap.get? e=some ⟨.ref C,dx,.fields vs,#[]⟩∧vs[1]?=some .none∧E (.ref e) s₁) E s):
  wpAny (model prog w) A (raiseStmt env (some x) none) Q E s:=by
 have me:(Value.ref C::bm).contains (.type "BaseException")=true:=by rw [List.contains_cons,hbase,Bool.or_true]
 unfold raiseStmt
 refine wpAny_bind (wpAny_mono hx (fun v s₁ h₁=>?_) fun _ _ x=>x)
 obtain ⟨e,dx,vs,rfl,hC,he,h1,hE⟩:=h₁
 obtain ⟨hp,g,d,tk,os⟩:=s₁
 repeat (first|with_reducible refine wpAny_loadPart_at he ?_|with_reducible refine wpAny_loadPart_at hC ?_|(with_reducible refine wpAny_isSubtype_exc hC ?_;rw [me])|wp_step)
 rw [h1]
 refine wpAny_pure ?_
 rw [if_neg (by decide)]
 exact wpAny_pure (wpAny_raiseNew_none hh hE)
end
def y9 (e C:Addr) (dx:Option Addr):Heap→Prop:=fun h=> ∃vs:Array Value,h.get? e=some ⟨.ref C,dx,.fields vs,#[]⟩∧1<vs.size∧vs[1]?=some .none
theorem Jw {P:Program} {w:World} {H:Hp} {h:Heap} {e C:Addr} {dx:Option Addr} (x:y9 e C dx h):bW P w H h e (.ext (y9 e C dx)):=
 ⟨x,x.elim fun vs q=>⟨_,q.1⟩,fun h1 h2 x1 k=>by obtain ⟨vs,q,r⟩:=x1;exact ⟨vs,k _ q,r⟩⟩
noncomputable def j5 (H:Hp) (e:Addr):Hp:=fun b=>if b=e then none else H b
theorem dZ {H:Hp} {e b:Addr} (n:b≠e):j5 H e b=H b:=by unfold j5;rw [if_neg n]
theorem yV {H:Hp} {e:Addr}:j5 H e e=none:=by unfold j5;rw [if_pos rfl]
section
variable {X:Cx} {pins:List (Addr×Obj)} {σ:St} {H:Hp} {s:Shared} {h':Heap} {e C:Addr}
theorem Inv.drop {φ:Heap→Prop} (I:Inv X pins σ H s) (h:H e=some (.ext φ)):Inv X pins σ (j5 H e) s:=by
 have ne: ∀{b:Addr} {o:HO},H b=some o→(∀ψ,o≠ .ext ψ)→b≠e:=fun {b o} q n z=>by
  subst z
  rw [h] at q
  injection q with q
  exact n φ q.symm
 refine I.un (t':=s.toks) (h':=s.heap) ⟨fun b o q n _ _=>q,fun b o q n _ _=>⟨o.slots,q⟩,fun b o q n _=>?_,fun b o q _=>⟨o,q⟩,fun b xs q=>?_,fun b o u q=>?_,fun b ps q=>⟨#[],?_⟩⟩ fun b o q=>?_
 ·
  unfold j5
  split
  ·rfl
  ·exact n
 ·rw [dZ (ne q (by simp))];exact q
 ·rw [dZ (ne q (by simp))];exact q
 ·rw [dZ (ne q (by simp)),q];simp
 ·
  have nb:b≠e:=fun z=>by rw [z,yV] at q;cases q
  rw [dZ nb] at q
  exact (I.hok b o q).stay (fun c u _ z=>z) (fun c z=>by rw [dZ (ne z (by simp))];exact z) fun c xs z=>by rw [dZ (ne z (by simp))];exact z
theorem Inv.setx {vs:Array Value} {y:V} {u:Value} {f:Str} {t':Nat} (I:Inv X pins σ H s) (hH:H e=some (.ext (y9 e C none))) (he:h'.get? e=some ⟨.ref C,some s.heap.objs.size,.fields vs,#[]⟩) (v1:1<vs.size) (v2:vs[1]?=some .none)
  (hn:h'.Ns1 s.heap.objs.size (fun z=>if z=f then some u else none)) (k: ∀b o,b≠e→s.heap.get? b=some o→h'.get? b=some o) (ry:RelV y u):
  Inv X pins σ (upd (upd H s.heap.objs.size (.xd [(f,y)])) e (.ext (y9 e C (some s.heap.objs.size)))) {s with heap:=h',toks:=t'}:=by
 have eN:e≠s.heap.objs.size:=Nat.ne_of_lt (I.hok e _ hH).lt
 have hN:H s.heap.objs.size=none:=I.hok.fresh (Nat.le_refl _)
 have nn: ∀{b:Addr} {o:HO},H b=some o→b≠s.heap.objs.size:=fun {b o} q z=>by rw [z,hN] at q;cases q
 have ne: ∀{b:Addr} {o:HO},H b=some o→(∀ψ,o≠ .ext ψ)→b≠e:=fun {b o} q n z=>by
  subst z
  rw [hH] at q
  injection q with q
  exact n _ q.symm
 have fr: ∀b,H b=none→b≠e:=fun b q z=>by rw [z,hH] at q;cases q
 refine I.un (t':=t') ⟨fun b o q n _ _=>k b o (fr b n) q,fun b o q n _ _=>⟨o.slots,k b o (fr b n) q⟩,fun b o q n _=>?_,fun b o q _=>?_,fun b xs q=>?_,fun b o u q=>?_,fun b ps q=>⟨#[],?_⟩⟩ fun b o q=>?_
 ·rw [ak (fr b n),ak (Nat.ne_of_lt (Heap.lt_size q))];exact n
 ·
  by_cases z:b=e
  ·exact ⟨_,z▸he⟩
  ·exact ⟨o,k b o z q⟩
 ·rw [ak (ne q (by simp)),ak (nn q)];exact q
 ·rw [ak (ne q (by simp)),ak (nn q)];exact q
 ·rw [ak (ne q (by simp)),ak (nn q),q];simp
 ·
  by_cases z:b=e
  ·
   subst z
   rw [aa] at q
   cases q
   exact Jw ⟨vs,he,v1,v2⟩
  ·
   rw [ak z] at q
   by_cases z2:b=s.heap.objs.size
   ·
    subst z2
    rw [aa] at q
    cases q
    refine ⟨_,hn,fun g=>?_⟩
    show xF (List.lookup g [(f,y)]) (if g=f then some u else none)
    by_cases c:g=f
    ·
     rw [if_pos c,c]
     simp only [List.lookup,BEq.rfl]
     exact ry
    ·
     rw [if_neg c]
     have:(g == f)=false:=beq_eq_false_iff_ne.mpr c
     simp only [List.lookup,this]
     exact True.intro
   ·
    rw [ak z2] at q
    refine (I.hok b o q).stay (fun c u hc g=>?_) (fun c g=>by rw [ak (ne g (by simp)),ak (nn g)];exact g) fun c xs g=>by rw [ak (ne g (by simp)),ak (nn g)];exact g
    rcases hc with r|r
    ·exact k c u (r▸z) g
    ·exact k c u (ne r (by simp)) g
end
structure vS (K:PySem.W.Frag) (C:Addr) (f:Str):Prop where
 sa:PySem.W.findIn K (.ref C) "__setattr__" = some (some (.builtin "object.__setattr__"))
 no:PySem.W.findIn K (.ref C) f=some none
def G8 (C:Addr) (ta tv:TE) (f:Str):TS:=fun D σ H=>tv σ H fun y H1=>ta σ H1 fun x H2=> ∃e,x = .ref e∧H2 e=some (.ext (y9 e C none))∧∀dx,H2 dx=none→D.nx σ (upd (upd H2 dx (.xd [(f,y)])) e (.ext (y9 e C (some dx))))
section
variable {X:Cx} {E:XK}
theorem y4.cd {K:PySem.W.Frag} {mg:Str→Option Value} {x:Str} {C R:Addr} {ini:Option Value} (c:y4 K mg x C R ini): ∃cd:ClassData,PySem.W.clsIn K C=some cd∧cd.mro = .ref C :: .ref R::AM∧cd.hasDict=true:=by
 obtain ⟨N,nm,q,bs,sn,sub,ab,col,dd,k0,k1,k2,k3,k5,l,_⟩:=c.cls
 unfold PySem.W.clsIn
 rw [l]
 exact ⟨_,rfl,rfl,rfl⟩
theorem KG {o value:Expr} {f x:Str} {C R:Addr} {ini:Option Value} {pos pos':Pos} {ta tv:TE} (c:y4 X.K X.mg x C R ini) (m:vS X.K C f) (ha:PE X o ta) (hv:PE X value tv) (hs:oP value=false:=by rfl):PS X (.Assign [.Attribute o f pos'] value pos) (G8 C ta tv f):=by
 intro pins s σ H D I h
 obtain ⟨cd,hc,hm,hd⟩:=c.cd
 refine plainObj_wpAny_Assign_Attribute (thn (hv pins s σ H _ I h) fun u s1 ⟨y,H1,I1,ry,q⟩=>thn (ha pins s1 σ H1 _ I1 q) fun ov s2 ⟨x,H2,I2,rx,e,ex,eH,q2⟩=>?_) (pB hs)
 subst ex
 obtain rfl:ov=Value.ref e:=rx
 obtain ⟨⟨vs,he,v1,v2⟩,_⟩:=I2.hok e _ eH
 refine R8 I2.l_ he hc hm hd m.sa m.no fun h' t' g1 g2 g3=>⟨σ,_,I2.setx eH g1 v1 v2 g2 g3 ry,q2 _ (I2.hok.fresh (Nat.le_refl _))⟩
end
def AN (C:Addr) (sp:Sp) (E:XK) (ta:TA):TS:=fun _ σ H=>ta σ H fun vs H1=> ∀e,H1 e=none→sp (.ref e::vs) (upd H1 e (.ext (y9 e C none))) (fun v H2=>v = .non∧∃dx,H2 e=some (.ext (y9 e C dx))∧E (.ref C) dx (j5 H2 e)) E0
section
variable {X:Cx} {E:XK}
theorem Inv.newx {pins:List (Addr×Obj)} {σ:St} {H:Hp} {s:Shared} {h':Heap} {e C:Addr} {args:List Value} (I:Inv X pins σ H s) (he:H e=none) (hm:Heap.MadeExcOf s.heap h' e (.ref C) args):Inv X pins σ (upd H e (.ext (y9 e C none))) {s with heap:=h'}:=by
 obtain ⟨t,oe,_,_⟩:=hm.there
 have ne: ∀{b:Addr} {o:HO},H b=some o→b≠e:=fun {b o} q z=>by rw [z,he] at q;cases q
 refine I.un (t':=s.toks) ⟨fun b o q n _ _=>hm.keeps b o q,fun b o q n _ _=>⟨o.slots,hm.keeps b o q⟩,fun b o q n _=>?_,fun b o q _=>⟨o,hm.keeps b o q⟩,fun b xs q=>?_,fun b o u q=>?_,fun b ps q=>⟨#[],?_⟩⟩ fun b o q=>?_
 ·rw [ak (fun z=>by rw [z,hm.new] at q;cases q)];exact n
 ·rw [ak (ne q)];exact q
 ·rw [ak (ne q)];exact q
 ·rw [ak (ne q),q];simp
 ·
  by_cases z:b=e
  ·
   subst z
   rw [aa] at q
   cases q
   exact Jw ⟨_,oe,by show 1<6;decide,rfl⟩
  ·
   rw [ak z] at q
   exact (I.hok b o q).stay (fun c u _ g=>hm.keeps c u g) (fun c g=>by rw [ak (ne g)];exact g) fun c xs g=>by rw [ak (ne g)];exact g
theorem Ga {CX:pz} [Quiet CX] {x:Str} {C R:Addr} {ini:Option Value} {k:Nat} {ps:List Str} {sp:Sp} {a:Expr} {es:List Expr} {ta:TA} {np cpos pos:Pos} (c:y4 X.K X.mg x C R ini) (G:cC X.prog X.w X.K X.mg X.base CX C "__init__" k ps sp) (kp:PySem.W.keepIn X.K (.ref C)=true)
  (hr:cz (k+1) X.A) (hz:Rz X E) (hc:X.calm=true) (hex:X.ex= []) (hg:Gl X x) (ha:PA X (a::es) ta) (hdb:(x == ("__debug__" : Str))=false:=by decide)
  (he:starEach (a::es) X.env=(false,eval a X.env)::starEach es X.env:=by rfl) (hpl:(backTo cpos (starEach es X.env)).any (·.1)=false:=by rfl) (hlen: ∀us:List Value,us.length+1=ps.length→us.length≤sizeLine:=by intro us h;simp at h;rw [sizeLine_eq];omega):
  PS X (.Raise (some (.Call (.Name x np) (a::es) [] cpos)) none pos) (AN C sp E ta):=by
 intro pins s σ H D I h
 obtain ⟨f,fd,F,M,hb⟩:=G
 obtain ⟨N,nm,q,bs,sn,sub,ab,col,dd,k0,k1,k2,k3,k5,l,_⟩:=c.cls
 rw [arm_exec_Raise]
 refine wpAny_bind (wpAny_standAt ?_)
 refine J8 (nm:=nm) (q:=q) (C:=C) (N:=N) (bs:=bs) (bm:= .ref R::AM) (hdct:=true) (sn:=sn) (sub:=sub) (ab:=ab) (col:=col) (dd:=dd) (k0:=k0) (k1:=k1) (k2:=k2) (k3:=k3) (k5:=k5) ((c.tail I.l_).hasType (by decide+kernel)) (I.ok.hd hc) ?_
 refine wpAny_bind (wpAny_mono (wpAny_Call_Name_kw (lq I hg c.JP (PySem.W.callWith_K (h₀:=X.base) I.ok.mod.kin kp (thn (ha cpos pins s σ H _ I h) fun us s1 ⟨vs,H1,I1,r,q1⟩=>⟨I1.l_,?_⟩) he hpl) hdb)) (fun v s₃ h₃=>wpAny_bind (wpAny_standAt (wpAny_pure h₃))) fun _ _ z=>z)
 have T:=c.tail I1.l_
 have hC:=I1.l_ _ _ l
 have hl1:us.length≤sizeLine:=by
  have e0:=(q1 s1.heap.objs.size (I1.hok.fresh (Nat.le_refl _)))
  have e1:=F.len _ _ _ _ e0
  have e2:=r.length
  rw [List.length_cons] at e1
  exact hlen us (by omega)
 obtain ⟨hp,g,d,t,os⟩:=s1
 refine RF I1.l_ T hC M.at_ (beq_iff_eq.mp M.fn) hl1 fun h' e hm=>?_
 have e0:H1 e=none:=by
  cases z:H1 e with
  |none=>rfl
  |some u=>
   obtain ⟨o',e'⟩:=(I1.hok e u z).there
   rw [hm.new] at e';cases e'
 have n0:X.s₀.heap.get? e=none:=by
  cases z:X.s₀.heap.get? e with
  |none=>rfl
  |some o=>
   obtain ⟨o',e'⟩:=I1.base.there e o z (by rw [hex];simp)
   rw [hm.new] at e';cases e'
 have I2:=I1.newx e0 hm
 have hq:=q1 e e0
 have r2:Vals (V.ref e::vs) (Value.ref e::us):= .cons rfl r
 have hl:(Value.ref e::us++ []).length=ps.length:=by
  have z:=F.len _ _ _ _ hq
  rw [List.append_nil,←r2.length]
  exact z
 refine wpAny_call (codeAny_mono (F.run _ X.stack _ _ ⟨Value.ref e::us,[]⟩ (Value.ref e::us) _ _ E0 (hr.make C us []) (I2.Ln.make C us []) (by have z:=hb {heap:=h',gens:=g,drawn:=d,toks:=t,os:=os} (Value.ref e::us) I2.l_ hl;rw [List.append_nil] at z;exact z) r2 hq) fun r s' hq'=>?_)
 cases r with
 |error x=>exact Quiet.pass X pins σ _ _ x s' I2 hq'
 |ok fl=>
  cases fl with
  |ret u=>
   obtain ⟨v,H',I3,rv,ev,dx,eH,hE⟩:=I2.after hq'
   subst ev
   obtain ⟨⟨ws,oe,w1,w2⟩,_⟩:=I3.hok e _ eH
   exact ⟨rv,e,dx,ws,rfl,I3.l_ _ _ l,oe,w2,hz _ _ _ _ _ _ _ none ⟨I3.drop eH,⟨_,ws,oe,rfl,rfl,rfl,w1,w2⟩,n0,yV,(fun T z=>by cases z),fun p hp=>⟨fun z=>(by have q:=(I1.pin p hp).1;rw [z,hm.new] at q;cases q),fun T z=>by cases z⟩⟩ hE⟩
  |next=>exact False.elim hq'
  |brk=>exact False.elim hq'
  |cont=>exact False.elim hq'
end
def kP (e:Addr) (cls:Value) (dx:Option Addr):Heap→Prop:=fun h=> ∃oe vs,h.get? e=some oe∧oe.cls=cls∧oe.dict=dx∧oe.data = .fields vs
theorem Ro {P:Program} {w:World} {H:Hp} {h:Heap} {e:Addr} {cls:Value} {dx:Option Addr} (x:kP e cls dx h):bW P w H h e (.ext (kP e cls dx)):=
 ⟨x,x.elim fun oe q=>q.elim fun vs q=>⟨_,q.1⟩,fun h1 h2 x1 k=>by obtain ⟨oe,vs,q,r⟩:=x1;exact ⟨oe,vs,k _ q,r⟩⟩
def CP (T:Addr):Heap→Prop:=fun h=> ∃o,h.get? T=some o
theorem yU {P:Program} {w:World} {H:Hp} {h:Heap} {e:Addr} (x:CP e h):bW P w H h e (.ext (CP e)):=
 ⟨x,x,fun h1 h2 x1 k=>by obtain ⟨o,q⟩:=x1;exact ⟨o,k _ q⟩⟩
section
variable {X:Cx} {pins:List (Addr×Obj)} {σ:St} {H:Hp} {s:Shared} {h':Heap} {ea:Addr} {cls:Value} {dx tb:Option Addr}
theorem Inv.track {a:Addr} {φ:Heap→Prop} (I:Inv X pins σ H s) (n:H a=none) (n0:X.s₀.heap.get? a=none) (np: ∀p∈X.pn++pins,p.1≠a) (ho: ∃o vs,s.heap.get? a=some o∧o.data = .fields vs)
  (k:bW X.prog X.w (upd H a (.ext φ)) s.heap a (.ext φ)):Inv X pins σ (upd H a (.ext φ)) s:=by
 obtain ⟨o,vs,ho,hd⟩:=ho
 have ne: ∀{b:Addr} {u:HO},H b=some u→b≠a:=fun {b u} q z=>by rw [z,n] at q;cases q
 have nl:X.env.locals≠a:=fun z=>by
  obtain ⟨m,⟨o',es,ep,e1,e2,_⟩,_⟩:=I.loc
  rw [z,ho] at e1;cases e1
  rw [hd] at e2;cases e2
 have nc: ∀x c,X.env.cells.lookup x=some c→c≠a:=fun x c e z=>by
  obtain ⟨v,o',e1,e2⟩:=I.cell x c e
  rw [z,ho] at e1;cases e1
  rw [hd] at e2;cases e2
 refine ⟨I.ok,I.os,I.bare,⟨I.base.keep,I.base.slot,fun b u q m hx=>?_,I.base.there,fun b xs q=>?_,fun b o u q=>?_,fun b ps q=>?_⟩,I.loc,I.cell,?_,fun x c e=>?_,fun p hp=>?_,fun b u q=>?_,I.len⟩
 ·rw [ak (fun z=>by rw [z,n0] at q;cases q)];exact I.base.free b u q m hx
 ·
  have q':=I.base.tups b xs q
  rw [ak (ne q')];exact q'
 ·
  have q':=I.base.frzs b o u q
  rw [ak (ne q')];exact q'
 ·
  obtain ⟨more,q'⟩:=I.base.tbls b ps q
  exact ⟨more,by rw [ak (ne q')];exact q'⟩
 ·rw [ak nl];exact I.free
 ·rw [ak (nc x c e)];exact I.kY x c e
 ·
  obtain ⟨p1,p2,p3⟩:=I.pin p hp
  exact ⟨p1,by rw [ak (np p hp)];exact p2,p3⟩
 ·
  by_cases z:b=a
  ·
   subst z
   rw [aa] at q
   cases q
   exact k
  ·
   rw [ak z] at q
   exact (I.hok b u q).stay (fun c v _ g=>g) (fun c g=>by rw [ak (ne g)];exact g) fun c xs g=>by rw [ak (ne g)];exact g
theorem GF {T:Addr} {o:HO} (n:H T=none):j5 (upd H T o) T=H:=by
 funext b
 unfold j5
 split
 ·rename_i e;rw [e,n]
 ·rename_i e;rw [ak e]
theorem Inv.left (I:Inv X pins σ H s) {T:Option Addr} (hT: ∀t,T=some t→H t=some (.ext (CP t))) (he:H ea=some (.ext (CP ea))) (hk:O9 (frs X.stack) ea T s.heap h') (hx:kP ea cls dx h'):
  Inv X pins σ (upd H ea (.ext (kP ea cls dx))) {s with heap:=h'}:=by
 have ne: ∀{b:Addr} {o:HO},H b=some o→(∀ψ,o≠ .ext ψ)→b≠ea∧∀t,T=some t→b≠t:=fun {b o} q n=>⟨fun z=>by
  subst z
  rw [he] at q
  injection q with q
  exact n _ q.symm,fun t ht z=>by
  subst z
  rw [hT b ht] at q
  injection q with q
  exact n _ q.symm⟩
 have fr: ∀b,H b=none→b≠ea∧∀t,T=some t→b≠t:=fun b q=>⟨(fun z=>by rw [z,he] at q;cases q),fun t ht z=>by rw [z,hT t ht] at q;cases q⟩
 refine I.call' (s':={s with heap:=h'}) (ch:=[]) rfl ⟨fun b o q n hb _=>?_,fun b o q n hb _=>hk.slot b o hb q,fun b o q n _=>?_,fun b o q _=>hk.there b o q,fun b xs q=>?_,fun b o u q=>?_,fun b ps q=>⟨#[],?_⟩⟩ (fun b o q=>?_) I.bare (fun b z=>absurd z (by simp))
 ·exact hk.keep b o hb (fr b n).1 (fr b n).2 q
 ·rw [ak (fr b n).1];exact n
 ·rw [ak (ne q (by simp)).1];exact q
 ·rw [ak (ne q (by simp)).1];exact q
 ·rw [ak (ne q (by simp)).1,q];simp
 ·
  by_cases z:b=ea
  ·
   subst z
   rw [aa] at q
   cases q
   exact Ro hx
  ·
   rw [ak z] at q
   by_cases zT:T=some b
   ·
    have q':=hT b zT
    rw [q] at q'
    injection q' with q'
    subst q'
    obtain ⟨⟨o,e1⟩,_⟩:=(show bW X.prog X.w H s.heap b (.ext (CP b)) from I.hok b _ q)
    obtain ⟨o',e2⟩:=hk.there b o e1
    exact yU ⟨o',e2⟩
   ·
    have nS: ∀{c:Addr} {u:HO},H c=some u→c ∉ frs X.stack:=fun {c u} g m=>by rw [I.sN c m] at g;cases g
    refine (I.hok b o q).stay (fun c u hc g=>?_) (fun c g=>by rw [ak (ne g (by simp)).1];exact g) fun c xs g=>by rw [ak (ne g (by simp)).1];exact g
    rcases hc with r|r
    ·
     rw [r] at g⊢
     exact hk.keep b u (nS q) z (fun t ht e=>zT (e▸ht)) g
    ·exact hk.keep c u (nS r) (ne r (by simp)).1 (ne r (by simp)).2 g
theorem Es.land {T':Addr} (F:Es X pins σ H s ea cls dx tb) (hk:O9 (frs X.stack) ea tb s.heap h') (hx:GP h' ea cls dx (some T')):Inv X pins σ (upd H ea (.ext (kP ea cls dx))) {s with heap:=h'}:=by
 obtain ⟨oe,vs,he,hc,hd,hdata,hsz,hT⟩:=F.ex
 have hx':kP ea cls dx h':=by obtain ⟨o,ws,e1,e2,e3,e4,_⟩:=hx;exact ⟨o,ws,e1,e2,e3,e4⟩
 have I1:=F.inv.track (φ:=CP ea) F.nH F.n0 (fun p hp=>(F.apart p hp).1) ⟨oe,vs,he,hdata⟩ (yU ⟨oe,he⟩)
 cases tb with
 |none=>
  have I2:=I1.left (T:=none) (fun t z=>by cases z) aa hk hx'
  have e:upd (upd H ea (.ext (CP ea))) ea (.ext (kP ea cls dx))=upd H ea (.ext (kP ea cls dx)):=by
   funext b;unfold upd;split<;>rfl
  rw [e] at I2
  exact I2
 |some T=>
  obtain ⟨h1,ne,oT,ts,hT,dT,h3⟩:=hT
  obtain ⟨t0,tH⟩:=F.tbs T rfl
  have I2:=I1.track (φ:=CP T) (by rw [ak ne];exact tH) t0 (fun p hp=>(F.apart p hp).2 T rfl) ⟨oT,ts,hT,dT⟩ (yU ⟨oT,hT⟩)
  have I3:=I2.left (T:=some T) (fun t z=>by cases z;exact aa) (by rw [ak (Ne.symm ne)];exact aa) hk hx'
  have I4:=I3.drop (e:=T) (φ:=CP T) (by rw [ak ne];exact aa)
  have e:j5 (upd (upd (upd H ea (.ext (CP ea))) T (.ext (CP T))) ea (.ext (kP ea cls dx))) T=upd H ea (.ext (kP ea cls dx)):=by
   funext b
   unfold j5 upd
   by_cases z:b=T
   ·subst z;simp [ne,tH]
   ·by_cases z2:b=ea<;>simp [z,z2,Ne.symm ne]
  rw [e] at I4
  exact I4
theorem K_ {h:Heap} {a:Addr} {o:Obj} (e:h.get? a=some o):h.objs[a]?=some o:=by
 unfold Heap.get? at e
 split at e
 ·cases e
 ·exact e
theorem pY {h:Heap} {a:Addr} {o:Obj} {f:Obj→Obj} (e:h.get? a=some o) (i:f o=o):h.update a f=h:=by
 have e':=K_ e
 obtain ⟨objs,l⟩:=h
 have:objs.modify a f=objs:=by
  apply Array.ext (by simp)
  intro j h1 h2
  rw [Array.getElem_modify]
  split
  ·
   rename_i z
   subst z
   have q:objs[a]?=some o:=e'
   rw [Array.getElem?_eq_getElem h2] at q
   rw [Option.some.inj q,i]
  ·rfl
 show (⟨objs.modify a f,l⟩:Heap)=_
 rw [this]
theorem Ju {M:Model} {A:Around} {E:Value→Shared→Prop} {T:Addr} {Q:Unit→Shared→Prop} (hx:GP s.heap ea cls dx (some T)) (h:Q () s):wpAny M A (setFlight (.ref ea) none) Q E s:=by
 obtain ⟨oe,vs,he,_,_,hd,hsz,h1,ne,oT,ts,hT,dT,h3⟩:=hx
 unfold setFlight
 refine wpAny_bind (wpAny_field he hd h1 ?_)
 rw [if_pos (by simp)]
 refine wpAny_setField hT dT (Array.getElem?_eq_some_iff.mp h3).1 ?_
 rw [pY hT]
 ·exact h
 ·
  obtain ⟨c,d,dt,sl⟩:=oT
  obtain rfl:dt = .fields ts:=dT
  show Obj.mk c d (.fields (ts.setIfInBounds 3 Value.none)) sl=_
  congr 1
  congr 1
  obtain ⟨l3,e3⟩:=Array.getElem?_eq_some_iff.mp h3
  apply Array.ext (by simp)
  intro j h1 h2
  rw [Array.getElem_setIfInBounds]
  split
  ·rename_i z;subst z;exact e3.symm
  ·rfl
end
noncomputable abbrev Cx.t9 (X:Cx) (pn:List (Addr×Obj)) (σ:St) (E:XK):Cx:={X with pn:=X.pn++pn,xe:=fun e s=> ∃ea cls dx tb H',e = .ref ea∧Es X pn σ H' s ea cls dx tb∧E cls dx H'}
noncomputable abbrev Cx.hand (X:Cx) (e:Value):Cx:={X with A:=X.A.mark (some e),calm:=false,xe:=fun _ _=>False}
section
variable {X:Cx} {pins pn:List (Addr×Obj)} {σ σ0:St} {H:Hp} {s:Shared} {E:XK}
theorem Cx.Ok.t9 (ok:X.Ok):(X.t9 pn σ E).Ok:=
 ⟨ok.mod,ok.kind,ok.glob,ok.blt,ok.above,ok.inj,ok.has,ok.cab,ok.hd,ok.frames,ok.stk,ok.exf,ok.bs,ok.bsz,ok.noex,ok.exfs,ok.funs,ok.frf⟩
theorem Cx.Ok.untry (ok:(X.t9 pn σ E).Ok):X.Ok:=
 ⟨ok.mod,ok.kind,ok.glob,ok.blt,ok.above,ok.inj,ok.has,ok.cab,ok.hd,ok.frames,ok.stk,ok.exf,ok.bs,ok.bsz,ok.noex,ok.exfs,ok.funs,ok.frf⟩
theorem Cx.Ok.hand {e:Value} (ok:X.Ok):(X.hand e).Ok:=
 ⟨ok.mod,ok.kind,ok.glob,ok.blt,ok.above,ok.inj,ok.has,ok.cab,(fun z=>by cases z),ok.frames,ok.stk,ok.exf,ok.bs,ok.bsz,ok.noex,ok.exfs,ok.funs,ok.frf⟩
theorem Inv.t9 (I:Inv X pn σ H s):Inv (X.t9 pn σ0 E) [] σ H s:=⟨I.ok.t9,I.os,I.bare,I.base,I.loc,I.cell,I.free,I.kY,fun p hp=>I.pin p (by rw [List.append_nil] at hp;exact hp),I.hok,I.len⟩
theorem Inv.untry (I:Inv (X.t9 pn σ0 E) pins σ H s):Inv X pn σ H s:=⟨I.ok.untry,I.os,I.bare,I.base,I.loc,I.cell,I.free,I.kY,fun p hp=>I.pin p (List.mem_append_left _ hp),I.hok,I.len⟩
theorem Inv.hand {e:Value} (I:Inv X pins σ H s):Inv (X.hand e) pins σ H s:=⟨I.ok.hand,I.os,I.bare,I.base,I.loc,I.cell,I.free,I.kY,I.pin,I.hok,I.len⟩
theorem Inv.unhand {e:Value} (ok:X.Ok) (I:Inv (X.hand e) pins σ H s):Inv X pins σ H s:=⟨ok,I.os,I.bare,I.base,I.loc,I.cell,I.free,I.kY,I.pin,I.hok,I.len⟩
theorem Es.untry {ea:Addr} {cls:Value} {dx tb:Option Addr} (F:Es (X.t9 pn σ0 E) pins σ H s ea cls dx tb):Es X pn σ H s ea cls dx tb:=⟨F.inv.untry,F.ex,F.n0,F.nH,F.tbs,fun p hp=>F.apart p (List.mem_append_left _ hp)⟩
theorem SP.untry {D:Ends} {f:Flow} {s':Shared} (h:SP (X.t9 pn σ0 E) pins D f s'):SP X pn D f s':=by
 cases f with
 |next=>obtain ⟨σ',H',I,q⟩:=h;exact ⟨σ',H',I.untry,q⟩
 |brk=>obtain ⟨σ',H',I,q⟩:=h;exact ⟨σ',H',I.untry,q⟩
 |cont=>obtain ⟨σ',H',I,q⟩:=h;exact ⟨σ',H',I.untry,q⟩
 |ret u=>obtain ⟨v,σ',H',I,r,q⟩:=h;exact ⟨v,σ',H',I.untry,r,q⟩
def O8 (CX:pz) (X:Cx) (σ:St) (E:XK):Prop:= ∀(pins:List (Addr×Obj)) (H:Hp) (s:Shared) (e:Value) (s':Shared),Inv X pins σ H s→CX X.stack H s E e s'→X.xe e s'
theorem HW (hex:X.ex= []):O8 (fA X.prog X.w) (X.t9 pn σ E) σ E:=fun pins H s e s' I h=>by
 obtain ⟨ea,cls,dx,T,H',rfl,F,hE⟩:=Jt (X:=X.t9 pn σ E) hex I h
 exact ⟨ea,cls,dx,some T,H',rfl,F.untry,hE⟩
end
def Px (σ0:St) (sp:Sp) (E:XK) (t:TA):TE:=fun σ H Q=>σ=σ0∧t σ H fun vs H1=>sp vs H1 Q E
def GZ (σ0:St) (C:Addr) (sp:Sp) (E:XK) (t:TA):TE:=fun σ H Q=>σ=σ0∧t σ H fun vs H1=> ∀x dx,H1 x=none→H1 dx=none→dx≠x→
 sp (.ref x::vs) (upd (upd H1 dx (.own x)) x (.ins C dx [])) (fun v H2=>v = .non∧Q (.ref x) H2) E
def abl (σ0:St) (C:Addr) (m:Str) (sp:Sp) (E:XK) (ta:TE) (t:TA):TE:=fun σ H Q=>σ=σ0∧ta σ H fun x H1=>rMt C m x H1 (t σ H1 fun vs H2=>sp (x::vs) H2 Q E)
section
variable {X:Cx} {CX:pz} {k n:Nat} {f C:Addr} {fd:FuncData} {ps:List Str} {sp:Sp} {E:XK} {x m:Str} {p pos apos:Pos} {e o:Expr} {es:List Expr} {ta:TE} {t:TA} {σ0:St}
theorem Qd (c:cE X.K X.mg x C) (G:cC X.prog X.w X.K X.mg X.base CX C "__init__" k ps sp) (hr:cz n X.A) (hk:k+1≤n) (hg:Gl X x) (hx:O8 CX X σ0 E) (ha:PA X (e::es) t)
  (hdb:(x == ("__debug__" : Str))=false:=by decide) (hst:(e::es).any isStar=false:=by rfl):PE X (.Call (.Name x p) (e::es) [] pos) (GZ σ0 C sp E t):=by
 obtain ⟨f,fd,F,hm,hb⟩:=G
 rw [List.any_cons,Bool.or_eq_false_iff] at hst
 intro pins s σ H Q I ⟨hσ,h⟩
 subst hσ
 refine wpAny_Call_Name_kw (lq I hg c.JP ?_ hdb)
 refine PySem.W.callWith_K (h₀:=X.base) I.ok.mod.kin c.kp (thn (ha pos pins s σ H _ I h) fun us s1 ⟨vs,H1,I1,r,q⟩=>⟨I1.l_,?_⟩) (bJ hst.1) (jS hst.2)
 have hq:=q (s1.heap.objs.size+1) s1.heap.objs.size (I1.hok.fresh (Nat.le_succ _)) (I1.hok.fresh (Nat.le_refl _)) (Nat.ne_of_lt (Nat.lt_succ_self _))
 have I2:=Inv.made (C:=C) I1
 have r2:Vals (V.ref (s1.heap.objs.size+1)::vs) (Value.ref (s1.heap.objs.size+1)::us):= .cons rfl r
 have hl:(Value.ref (s1.heap.objs.size+1)::us++ []).length=ps.length:=by
  have z:=r2.length
  rw [F.len _ _ _ _ hq] at z
  rw [List.append_nil]
  exact z.symm
 refine wpAny_call (CD (f:=f) I1.l_ c.mks hm.at_ (beq_iff_eq.mp hm.fn) (codeAny_mono (F.run _ X.stack _ _ ⟨Value.ref (s1.heap.objs.size+1)::us,[]⟩ (Value.ref (s1.heap.objs.size+1)::us) _ _ E ((hr.mono hk).make C us [])
  (I2.Ln.make C us []) (by have z:=hb _ (Value.ref (s1.heap.objs.size+1)::us) I2.l_ hl;rw [List.append_nil] at z;exact z) r2 hq) fun r s' hq'=>?_))
 cases r with
 |error e=>exact hx pins _ _ e s' I2 hq'
 |ok fl=>
  cases fl with
  |ret u=>
   obtain ⟨v,H',I3,rv,ev,q3⟩:=I2.after hq'
   subst ev
   exact ⟨rv,⟨V.ref (s1.heap.objs.size+1),H',I3,rfl,q3⟩⟩
  |next=>exact False.elim hq'
  |brk=>exact False.elim hq'
  |cont=>exact False.elim hq'
end
structure t6 (K:PySem.W.Frag) (mg:Str→Option Value) (x:Str) (C:Addr):Prop where
 JP:mg x=some (.ref C)
 ty:PySem.W.typeIn K (.ref C)=some (.type "type")
 ex:PySem.W.mroIn K C (.type "BaseException")=some true
noncomputable def isx (K:PySem.W.Frag) (cls:Value) (C:Addr):Option Bool:=match cls with
 | .ref D=>PySem.W.mroIn K D (.ref C)
 |_=>none
def D3 (o:Option Bool) (p q:Prop):Prop:=match o with
 |some true=>p
 |some false=>q
 |none=>False
theorem Z3 {p q:Prop}:D3 (some true) p q=p:=rfl
theorem Z4 {p q:Prop}:D3 (some false) p q=q:=rfl
section
variable {prog:Program} {w:World} {A:Around} {E:Value→Shared→Prop} {s:Shared} {K:PySem.W.Frag}
theorem xmatch {mg:Str→Option Value} {x:Str} {C e:Addr} {oe:Obj} {b:Bool} {Q:Bool→Shared→Prop} (X:K.In s.heap) (he:s.heap.get? e=some oe) (m:t6 K mg x C) (hb:isx K oe.cls C=some b) (h:Q b s):
  wpAny (model prog w) A (excMatches (.ref e) (.ref C)) Q E s:=by
 have L1:PySem.W.Looks (model prog w) s.heap (isInstance (.ref C) (.type "tuple")) false:=(PySem.W.looks_typeIn X m.ty).andThen (PySem.W.Looks.of_pure tc_notTuple)
 have L3:PySem.W.Looks (model prog w) s.heap (isSubtype (.ref C) (.type "BaseException")) true:=PySem.W.looks_mroIn X m.ex
 have L2:PySem.W.Looks (model prog w) s.heap (isType (.ref C)) true:=by
  have z:=m.ex
  unfold PySem.W.mroIn at z
  obtain ⟨cd,hc,_⟩:=Option.bind_eq_some_iff.mp z
  unfold PySem.W.clsIn at hc
  split at hc
  ·
   rename_i ho
   intro A' Q' E' s' k q
   unfold isType loadHead
   exact wpAny_bind (wpAny_loadPart (k _ _ (X _ _ ho)) (wpAny_pure q))
  ·cases hc
 have L4:PySem.W.Looks (model prog w) s.heap (typeOf (.ref e)) oe.cls:=(PySem.W.Looks.ld he).andThen .now
 have L5:PySem.W.Looks (model prog w) s.heap (isSubtype oe.cls (.ref C)) b:=by
  unfold isx at hb
  split at hb
  ·
   rename_i D hD
   rw [hD]
   exact PySem.W.looks_mroIn X hb
  ·cases hb
 unfold excMatches
 refine wpAny_bind (L1.here ?_)
 dsimp only
 rw [if_neg (by decide)]
 refine wpAny_bind (wpAny_pure ?_)
 rw [List.forIn_cons]
 refine wpAny_bind (wpAny_bind (wpAny_bind ?_))
 unfold isExcClass
 refine wpAny_bind (L2.here ?_)
 rw [if_pos rfl]
 refine L3.here ?_
 simp only [Bool.not_true,Bool.false_eq_true,if_false]
 refine wpAny_pure ?_
 dsimp only
 rw [List.forIn_nil]
 refine wpAny_pure ?_
 refine wpAny_bind (L4.here ?_)
 rw [List.forIn_cons]
 refine wpAny_bind (wpAny_bind (wpAny_bind (L5.here ?_)))
 cases b with
 |true=>exact wpAny_pure (wpAny_pure (wpAny_pure h))
 |false=>
  refine wpAny_pure ?_
  dsimp only
  rw [List.forIn_nil]
  exact wpAny_pure (wpAny_pure h)
end
section
variable {X:Cx} {pins:List (Addr×Obj)} {σ:St} {H:Hp} {s:Shared} {M:Model} {A:Around} {E:Value→Shared→Prop}
theorem qy {i:Nat} {x:Str} {pos:Pos} {Q:Unit→Shared→Prop} (I:Inv X pins σ H s) (hN:X.N.Nodup) (hi:X.N[i]?=some x) (hk:X.env.scope.names.lookup x=some .local)
  (h: ∀s',Inv X pins (σ.set i none) H s'→Q () s'):wpAny M A (do bindName X.env x .none;unbindBehindTheSuite X.env x pos) Q E s:=by
 refine wpAny_bind (wpAny_bindName (sM (v:= .non) I hN hi (.inl hk) rfl (fun s1 I1=>?_) (.inr hk)))
 have hiσ:i<σ.length:=by rw [I.len];exact (List.getElem?_eq_some_iff.mp hi).1
 obtain ⟨m,hn,hl⟩:=id I1.loc
 have hcls:(X.env.scope.kind == .class||(X.env.scope.kind == .module&&X.env.locals != X.env.globals))=false:=by rw [I.ok.kind];rfl
 have hkk:X.env.kindOf x=some .local:=hk
 have hv: ∃u,m x=some u:=by
  obtain ⟨u,_,q⟩:=hl i x .non hi (by rw [List.getElem?_set_self hiσ]) (.inl hk)
  rcases q with ⟨_,q⟩|⟨q,_⟩
  ·exact ⟨u,q⟩
  ·rcases q with q|q<;>rw [hkk] at q<;>cases q
 obtain ⟨u,hv⟩:=hv
 unfold unbindBehindTheSuite
 refine wpAny_onRaise (wpAny_unbindName_local hkk hn hv hcls fun h' u' hn' hs=>h _ ?_)
 obtain ⟨oL,_,_,hoL,_⟩:=id hn
 have cne:=I1.cne
 refine ⟨I1.ok,I1.os,I1.bare,⟨fun b o e n hb hx=>?_,fun b o e n hb hx=>?_,I1.base.free,fun b o e hx=>?_,I1.base.tups,I1.base.frzs,I1.base.tbls⟩,⟨_,hn',fun j y v' e1 e2 e3=>?_⟩,fun y c e=>?_,I1.free,I1.kY,fun p hp=>?_,fun b ob e=>?_,by simpa using I.len⟩
 ·exact (hs.2 b (Nat.ne_of_lt (Nat.lt_of_lt_of_le (Heap.lt_size e) I1.ok.above))).trans (I1.base.keep b o e n hb hx)
 ·
  obtain ⟨sl,e1⟩:=I1.base.slot b o e n hb hx
  exact ⟨sl,(hs.2 b (Nat.ne_of_lt (Nat.lt_of_lt_of_le (Heap.lt_size e) I1.ok.above))).trans e1⟩
 ·
  obtain ⟨o',e1⟩:=I1.base.there b o e hx
  exact ⟨o',(hs.2 b (Nat.ne_of_lt (Nat.lt_of_lt_of_le (Heap.lt_size e) I1.ok.above))).trans e1⟩
 ·
  by_cases hj:j=i
  ·
   subst hj
   rw [List.getElem?_set_self hiσ] at e2
   cases e2
  ·
   rw [List.getElem?_set_ne (Ne.symm hj)] at e2
   obtain ⟨u3,r3,q⟩:=hl j y v' e1 (by rw [List.getElem?_set_ne (Ne.symm hj)];exact e2) e3
   refine ⟨u3,r3,?_⟩
   rcases q with ⟨k,e⟩|⟨k,c,e,z⟩
   ·
    refine .inl ⟨k,?_⟩
    have:y≠x:=fun e=>hj (ym hN e1 (e▸hi))
    simp [this,e]
   ·exact .inr ⟨k,c,e,z.sameBut hs (cne y c e)⟩
 ·
  obtain ⟨w',z⟩:=I1.cell y c e
  exact ⟨w',z.sameBut hs (cne y c e)⟩
 ·
  obtain ⟨e,n,ne,nf,d⟩:=I1.pin p hp
  exact ⟨(hs.2 p.1 ne).trans e,n,ne,nf,d⟩
 ·
  refine (I1.hok b ob e).stay (fun c w' hc q=>(hs.2 c ?_).trans q) (fun _ q=>q) fun _ _ q=>q
  rintro rfl
  rcases hc with z|z
  ·subst z;rw [I1.free] at e;cases e
  ·rw [I1.free] at z;cases z
end
noncomputable abbrev TH:=Ends→St→Value→Option Addr→Hp→Prop
def PH (X:Cx) (hs:List ExceptHandler) (t:TH):Prop:= ∀(pins:List (Addr×Obj)) (s:Shared) (σ:St) (H:Hp) (D:Ends) (ea:Addr) (cls:Value) (dx:Option Addr) (T:Addr),
 Inv X pins σ (upd H ea (.ext (kP ea cls dx))) s→GP s.heap ea cls dx (some T)→H ea=none→t D σ cls dx H→wpAny (model X.prog X.w) X.A (handleBy (.ref ea) X.env hs) (SP X pins D) X.xe s
noncomputable def Ends.un (D:Ends) (i:Nat):Ends:={nx:=fun σ H=>D.nx (σ.set i none) H,rt:=D.rt,bk:=fun σ H=>D.bk (σ.set i none) H,ct:=fun σ H=>D.ct (σ.set i none) H}
def tH0:TH:=fun _ _ _ _ _=>False
def tHc (K:PySem.W.Frag) (C:Addr) (i:Nat) (th:TS) (tr:TH):TH:=fun D σ cls dx H=>D3 (isx K cls C) (∀ea,H ea=none→th (D.un i) (σ.set i (some (.ref ea))) (upd H ea (.ext (kP ea cls dx)))) (tr D σ cls dx H)
def RT (tb:St→XK→TS) (th:TH):TS:=fun D σ H=>tb σ (fun cls dx H'=>th D σ cls dx H') D σ H
section
variable {X:Cx}
theorem P9:PH X [] tH0:=fun _ _ _ _ _ _ _ _ _ _ _ _ h=>h.elim
theorem EK {K:PySem.W.Frag} {x n:Str} {C:Addr} {i:Nat} {np pos:Pos} {b₀:Stmt} {body:List Stmt} {rest:List ExceptHandler} {th:TS} {tr:TH} (hK:X.K=K) (m:t6 X.K X.mg x C) (hg:Gl X x) (hN:X.N.Nodup) (hi:X.N[i]?=some n) (hk:X.env.scope.names.lookup n=some .local)
  (hs: ∀e,y_ (X.hand e) (b₀::body) th) (hr:PH X rest tr) (hdb:(x == ("__debug__" : Str))=false:=by decide):PH X (.ExceptHandler (some (.Name x np)) (some n) (b₀::body) pos::rest) (tHc K C i th tr):=by
 subst hK
 intro pins s σ H D ea cls dx T I hx hH h
 have ok:=I.ok
 have Ih:Inv (X.hand (.ref ea)) pins σ (upd H ea (.ext (kP ea cls dx))) s:=I.hand
 obtain ⟨oe,vs,he,hc,_⟩:=id hx
 refine wpAny_handleBy_cons (codeAny_handlers_test (lq (X:=X.hand (.ref ea)) Ih hg m.JP ?_ hdb)) (by intro q;cases q)
 unfold tHc at h
 cases hb:isx X.K cls C with
 |none=>rw [hb] at h;exact h.elim
 |some b=>
  rw [hb] at h
  refine xmatch I.l_ he m (by rw [hc];exact hb) ?_
  cases b with
  |false=>exact hr pins s σ H D ea cls dx T I hx hH h
  |true=>
   refine codeAny_handlers_suite_as (Ju hx (sM (X:=X.hand (.ref ea)) (v:= .ref ea) Ih hN hi (.inl hk) rfl (fun s1 I1=>?_) (.inr hk)))
   refine wpAny_mono (hs (.ref ea) pins s1 _ _ _ I1 (h ea hH)) (fun f s2 q=>?_) fun _ _ z=>z.elim
   cases f with
   |next=>obtain ⟨σ',H',I',q⟩:=q;exact qy (I'.unhand ok) hN hi hk fun s' I2=>⟨_,H',I2,q⟩
   |brk=>obtain ⟨σ',H',I',q⟩:=q;exact qy (I'.unhand ok) hN hi hk fun s' I2=>⟨_,H',I2,q⟩
   |cont=>obtain ⟨σ',H',I',q⟩:=q;exact qy (I'.unhand ok) hN hi hk fun s' I2=>⟨_,H',I2,q⟩
   |ret u=>obtain ⟨v,σ',H',I',r,q⟩:=q;exact qy (I'.unhand ok) hN hi hk fun s' I2=>⟨v,_,H',I2,r,q⟩
theorem P4 {body:List Stmt} {h₀:ExceptHandler} {hs:List ExceptHandler} {pos:Pos} {tb:St→XK→TS} {th:TH} (hb: ∀pn σ E,y_ (X.t9 pn σ E) body (tb σ E)) (hh:PH X (h₀::hs) th)
  (hst:X.stack=X.env::X.outer:=by rfl) (hf:X.env.frame=some X.env.locals:=by rfl):PS X (.Try body (h₀::hs) [] [] pos) (RT tb th):=by
 intro pins s σ H D I h
 refine wpAny_Try_except (wpAny_mono (hb pins σ _ [] s σ H D I.t9 h) (fun f s1 q=>?_) fun e s1 q=>?_)
 ·
  have q':=q.untry
  cases f with
  |next=>exact wpAny_execs_nil q'
  |brk=>exact q'
  |cont=>exact q'
  |ret u=>exact q'
 ·
  obtain ⟨ea,cls,dx,tb,H',rfl,F,hE⟩:=q
  have Ok:=F.inv.ok
  have fr:X.A.frames=some (X.env::X.outer):=by rw [←hst];exact Ok.frames
  have fl:s1.heap.FunFrames X.base (X.env::X.outer):=by rw [←hst];exact F.inv.stack
  refine HZ fr fl hf F.ex fun h' hx hk=>?_
  rw [←hst] at hk
  exact hh pins _ σ H' D ea cls dx _ (F.land hk hx) hx F.nH hE
end
structure lu (K:PySem.W.Frag) (C:Addr):Prop where
 ga:PySem.W.findIn K (.ref C) "__getattribute__" = some (some (.builtin "BaseException.__getattribute__"))
 gh:PySem.W.findIn K (.ref C) "__getattr__" = some none
 bx:PySem.W.mroIn K C (.type "BaseException")=some true
 ob:PySem.W.mroIn K C (.type "object")=some true
 hd:PySem.W.hasDictIn K C=true
 kc:PySem.W.findIn K (.ref C) "__class__" = some (some (.builtin "object.__class__"))
 kg:PySem.W.specialIn K (.builtin "object.__class__") "__get__" = some (some (.builtin "getset_descriptor.__get__"))
 kt:PySem.W.takesIn K (.builtin "object.__class__")=some true
section
variable {prog:Program} {w:World} {A:Around} {s:Shared} {K:PySem.W.Frag} {x C:Addr} {ox:Obj} {od:Option Obj} {name:Str}
theorem E6 {E:Value→Shared→Prop} {tk:Tok} {fill expr:Bool} {Q:Value→Shared→Prop} (X:K.In s.heap) (I:PySem.W.InstAt s.heap x ox C od) (g:lu K C)
  (h: ∀A',wpAny (model prog w) A' (Builtin.«object.__getattribute__» ⟨[.ref x,.str name tk],[]⟩) (fun fin s'=>match fin with | .done (.ret v)=>wpAny (model prog w) A (handedOut v) Q E s'|_=>False) (fun _ _=>False) s):
  wpAny (model prog w) A (getAttrBy (.ref x) (.str name tk) fill expr) Q E s:=by
 have L0:=I.type (M:=model prog w)
 have L1:=PySem.W.looks_findIn (M:=model prog w) X g.ga
 have L2:=PySem.W.looks_findIn (M:=model prog w) X g.gh
 have FX:=PySem.F.excAttr_ValueError
 have sub:PySem.W.Looks (model prog w) s.heap (isInstance (.ref x) (.type "BaseException")) true:=I.type.andThen (PySem.W.looks_mroIn X g.bx)
 have hx0:(expr&&onTheHeap (Value.builtin "BaseException.__getattribute__"))=false:=by cases expr<;>rfl
 have D3:(Value.builtin "BaseException.__getattribute__" == Value.builtin "object.__getattribute__")=false:=by decide+kernel
 unfold getAttrBy
 refine wpAny_holding (wpAny_bind (L0.here (wpAny_bind (L1.here ?_))))
 dsimp only
 rw [if_neg (by rw [D3];simp)]
 unfold getAttrByItsOwn hookBefore
 rw [if_pos (show onTheHeap (Value.ref C)=true from rfl)]
 refine wpAny_bind (L2.here ?_)
 refine wpAny_bind (wpAny_attempt (wpAny_holding ?_))
 unfold callGetattribute
 rw [hx0,if_neg (by decide)]
 unfold boundAndCalled
 rw [FX.ga.bind (.ref x)]
 refine wpAny_bind (wpAny_pure ?_)
 refine wpAny_call (codeAny_call_builtin FX.ga.plain PySem.F.entry_bexc_ga ?_)
 refine @PySem.W.check_slot (model prog w) _ _ s "BaseException.__getattribute__" "BaseException" "__getattribute__" (.ref x) [.str name tk] [] _ (by decide+kernel) (by decide+kernel) sub (PySem.F.args_bexc_ga (.ref x) (.str name tk)) ?_
 refine wpAny_mono (h _) (fun fin s' z=>?_) fun _ _ z=>z.elim
 rcases fin with (_|_|_|_)|_<;>first|exact z|exact z.elim
theorem D4 {E:Value→Shared→Prop} {expr:Bool} {v:Value} {Q:Value→Shared→Prop} (X:K.In s.heap) (I:PySem.W.InstAt s.heap x ox C od) (g:lu K C)
  (hf:PySem.W.findObj K C od name=some (.value v)) (hh:PySem.W.handedIn v=true) (h:Q v {s with toks:=s.toks+1}):wpAny (model prog w) A (getAttr (.ref x) name expr) Q E s:=by
 obtain ⟨hp,gs,d,t,os⟩:=s
 unfold getAttr
 refine wpAny_bind (wpAny_mkText (E6 (s:=⟨hp,gs,d,t+1,os⟩) X I g fun A'=>?_))
 have L0:=I.type (M:=model prog w)
 have L1:=PySem.W.looks_find (M:=model prog w) X I hf
 unfold Builtin.«object.__getattribute__»
 refine wpAny_bind (wpAny_pure (wpAny_bind (wpAny_pure (wpAny_bind (L0.at (wpAny_bind (L1.at ?_)))))))
 refine wpAny_pure ?_
 show wpAny _ _ (handedOut v) _ _ _
 rw [PySem.W.handedOut_of hh];exact wpAny_pure h
theorem D5 {E:Value→Shared→Prop} {Q:Option Value→Shared→Prop} (X:K.In s.heap) (I:PySem.W.InstAt s.heap x ox C od) (g:lu K C) (h:Q (some (.ref C)) {s with toks:=s.toks+1}):
  wpAny (model prog w) A (getAttr? (.ref x) "__class__") Q E s:=by
 have hf:PySem.W.findObj K C od "__class__" = some (.bind (.builtin "getset_descriptor.__get__") (.builtin "object.__class__")):=by
  obtain ⟨cd,hc,_⟩:=PySem.W.any_some g.hd
  unfold PySem.W.findObj
  rw [hc,Option.bind_some,g.kc,Option.bind_some]
  simp [g.kg,g.kt]
 obtain ⟨hp,gs,d,t,os⟩:=s
 unfold getAttr? getAttrBy?
 refine wpAny_bind (wpAny_mkText (wpAny_bind (wpAny_attempt (E6 (s:=⟨hp,gs,d,t+1,os⟩) X I g fun A'=>?_))))
 have L0:=I.type (M:=model prog w)
 have L1:=PySem.W.looks_find (M:=model prog w) X I hf
 unfold Builtin.«object.__getattribute__»
 refine wpAny_bind (wpAny_pure (wpAny_bind (wpAny_pure (wpAny_bind (L0.at (wpAny_bind (L1.at ?_)))))))
 refine wpAny_bind (wpAny_holding (wpAny_call (PySem.W.class_get (s:=⟨hp,gs,d,t+1,os⟩) (ox:=ox) (od:=od) X I g.ob ?_)))
 exact wpAny_pure (PySem.W.handed_on rfl (wpAny_pure h))
end
theorem Qs {K:PySem.W.Frag} {x D:Addr} (g:lu K D):PySem.W.KitX K (.ref x) (.ref D) (fun h=> ∃ox od,PySem.W.InstAt h x ox D od) where
 ty:=fun _ _ _ ⟨_,_,I⟩=>I.type
 it:=fun _ _ X _=>by
  obtain ⟨cdD,hcD,_⟩:=PySem.W.any_some g.hd
  unfold PySem.W.clsIn at hcD
  split at hcD
  ·
   rename_i c' d' cd' sl' ho
   intro A' Q' E' s' k q
   unfold isType loadHead
   exact wpAny_bind (wpAny_loadPart (k _ _ (X _ _ ho)) (wpAny_pure q))
  ·cases hcD
 ne:=fun h tp dd its n sl X htp=>by
  obtain ⟨cdD,hcD,_⟩:=PySem.W.any_some g.hd
  refine Bool.eq_false_iff.mpr fun q=>?_
  have e:D=tp:=Value.ref.inj (beq_iff_eq.mp q)
  subst e
  unfold PySem.W.clsIn at hcD
  split at hcD
  ·
   rename_i c' d' cd' sl' ho
   have z:=(X _ _ ho).symm.trans htp
   cases z
  ·cases hcD
 ca:=fun X I k=>by obtain ⟨ox,od,I⟩:=I;exact D5 X I g k
theorem E9 {a:Addr} {c c':Value} {d d':Option Addr} (e:kP a c d=kP a c' d'):c=c'∧d=d':=by
 have h1:kP a c d {objs:=Array.replicate (a+1) ⟨c,d,.fields #[],#[]⟩}:=⟨⟨c,d,.fields #[],#[]⟩,#[],by unfold Heap.get?;simp,rfl,rfl,rfl⟩
 rw [e] at h1
 obtain ⟨oe,vs,e1,e2,e3,_⟩:=h1
 have e0:Heap.get? {objs:=Array.replicate (a+1) ⟨c,d,.fields #[],#[]⟩} a=some ⟨c,d,.fields #[],#[]⟩:=by unfold Heap.get?;simp
 rw [e0] at e1
 cases e1
 exact ⟨e2,e3⟩
theorem Rm {a:Addr} {c:Value} {d:Addr} {N:Addr→Prop}:(∃dx,some (HO.ext (kP a c (some d)))=some (HO.ext (kP a c (some dx)))∧N dx)=N d:=by
 apply propext;constructor
 ·
  rintro ⟨dx,e,h⟩
  have e1:=Option.some.inj e
  injection e1 with e2
  obtain ⟨_,e3⟩:=E9 e2
  cases e3
  exact h
 ·exact fun h=>⟨d,rfl,h⟩
theorem Rn {a:Addr} {C:Addr} {d:Option Addr} {N:Addr→Option Addr→Prop}:(∃D dx,some (HO.ext (kP a (.ref C) d))=some (HO.ext (kP a (.ref D) dx))∧N D dx)=N C d:=by
 apply propext;constructor
 ·
  rintro ⟨D,dx,e,h⟩
  have e1:=Option.some.inj e
  injection e1 with e2
  obtain ⟨e3,e4⟩:=E9 e2
  cases e3;cases e4
  exact h
 ·exact fun h=>⟨C,d,rfl,h⟩
theorem aaO {l:List (Str×V)} {N:List (Str×V)→Prop}:(∃fs,some (HO.xd l)=some (HO.xd fs)∧N fs)=N l:=by
 apply propext;constructor
 ·rintro ⟨fs,e,h⟩;cases e;exact h
 ·exact fun h=>⟨l,rfl,h⟩
def Hz (C:Addr) (f:Str) (x:V) (H:Hp) (Q:VK):Prop:= ∃a,x = .ref a∧∃dx,H a=some (.ext (kP a (.ref C) (some dx)))∧∃fs,H dx=some (.xd fs)∧∃v,fs.lookup f=some v∧Q v H
def LH (C:Addr) (f:Str) (ta:TE):TE:=fun σ H Q=>ta σ H fun x H1=>Hz C f x H1 Q
theorem F3 {C a:Addr} {f:Str} {H:Hp} {Q:VK}:Hz C f (.ref a) H Q= ∃dx,H a=some (.ext (kP a (.ref C) (some dx)))∧∃fs,H dx=some (.xd fs)∧∃v,fs.lookup f=some v∧Q v H:=by
 apply propext;unfold Hz;constructor
 ·rintro ⟨b,e,h⟩;cases e;exact h
 ·exact fun h=>⟨a,rfl,h⟩
def BD (o:Option Bool) (N:Bool→Prop):Prop:=match o with
 |some b=>N b
 |none=>False
theorem Gv {b:Bool} {N:Bool→Prop}:BD (some b) N=N b:=rfl
def AL (H:Hp):Option Addr→Prop
 |none=>True
 |some d=> ∃fs,H d=some (.xd fs)
theorem Pd {H:Hp}:AL H none=True:=rfl
theorem Pc {H:Hp} {d:Addr}:AL H (some d)= ∃fs,H d=some (.xd fs):=rfl
theorem Ri {l:List (Str×V)}:(∃fs,some (HO.xd l)=some (HO.xd fs))=True:=eq_true ⟨l,rfl⟩
def EH (K:PySem.W.Frag):List V→Hp→VK→Prop:=fun xs H Q=>match xs with
 | [.ref p,.ref C]=> ∃D dx,H p=some (.ext (kP p (.ref D) dx))∧lu K D∧AL H dx∧BD (PySem.W.kitOne K (.ref D) (.ref C)) fun b=>Q (.bl b) H
 | [.ref p,.ty n]=> ∃D dx,H p=some (.ext (kP p (.ref D) dx))∧lu K D∧AL H dx∧BD (PySem.W.kitOne K (.ref D) (.type n)) fun b=>Q (.bl b) H
 |_=>False
theorem FY {K:PySem.W.Frag} {p C:Addr} {H:Hp} {Q:VK}:EH K [.ref p,.ref C] H Q= ∃D dx,H p=some (.ext (kP p (.ref D) dx))∧lu K D∧AL H dx∧BD (PySem.W.kitOne K (.ref D) (.ref C)) fun b=>Q (.bl b) H:=rfl
theorem Ht {K:PySem.W.Frag} {p:Addr} {n:String} {H:Hp} {Q:VK}:EH K [.ref p,.ty n] H Q= ∃D dx,H p=some (.ext (kP p (.ref D) dx))∧lu K D∧AL H dx∧BD (PySem.W.kitOne K (.ref D) (.type n)) fun b=>Q (.bl b) H:=rfl
section
variable {X:Cx} {e:Expr} {f x:Str} {C:Addr} {ta:TE} {pos:Pos}
theorem Inv.inst {pins:List (Addr×Obj)} {σ:St} {H:Hp} {s:Shared} {p D:Addr} {dx:Option Addr} (I:Inv X pins σ H s) (h:H p=some (.ext (kP p (.ref D) dx))) (hd: ∀d,dx=some d→∃o,s.heap.get? d=some o):
  ∃ox od,PySem.W.InstAt s.heap p ox D od∧∀d,dx=some d→s.heap.get? d=od:=by
 obtain ⟨⟨oe,vs,he,hc,hdx,hdt⟩,_⟩:=(show bW X.prog X.w H s.heap p (.ext (kP p (.ref D) dx)) from I.hok p _ h)
 cases dx with
 |none=>exact ⟨oe,none,⟨he,hc,by unfold PySem.W.notCls;rw [hdt],by rw [hdx];trivial⟩,fun d z=>by cases z⟩
 |some d=>
  obtain ⟨o,ho⟩:=hd d rfl
  exact ⟨oe,some o,⟨he,hc,by unfold PySem.W.notCls;rw [hdt],by rw [hdx];exact ho⟩,fun d' z=>by cases z;exact ho⟩
theorem EO (he:PE X e ta) (g:lu X.K C) (m:vS X.K C f) (hb:attributeBase e f X.env (eval e X.env)=eval e X.env):PE X (.Attribute e f pos) (LH C f ta):=by
 intro pins s σ H Q I h
 refine Fh hb (thn (he pins s σ H _ I h) fun u s1 ⟨x,H1,I1,rx,a,ex,dx,ea,fs,ed,v,l,q⟩=>?_)
 subst ex
 obtain rfl:u=Value.ref a:=rx
 obtain ⟨mA,hn,hr⟩:=(show bW X.prog X.w H1 s1.heap dx (.xd fs) from I1.hok dx _ ed)
 obtain ⟨o,ho,hl⟩:=As hn
 obtain ⟨ox,od,J,hj⟩:=I1.inst ea (fun d z=>by cases z;exact ⟨o,ho⟩)
 have ej:=hj dx rfl
 rw [ho] at ej
 subst ej
 obtain ⟨u,hu,ru⟩:=xF.some_of (v:=v) (o:=mA f) (by rw [←l];exact hr f)
 exact D4 I1.l_ J g (PySem.W.findObj_own g.hd m.no rfl (by rw [hl,hu])) (Ax ru) ⟨v,H1,I1.tok _,ru,q⟩
theorem qF (K:PySem.W.Frag) (hK:X.K=K):bQ X (.builtin "isinstance") (EH K):=by
 subst hK
 intro pins s σ H xs us Q I rs q
 unfold EH at q
 have key: ∀{p D:Addr} {dx:Option Addr} {c:Value} {b:Bool},H p=some (.ext (kP p (.ref D) dx))→lu X.K D→AL H dx→PySem.W.kitOne X.K (.ref D) c=some b→Q (.bl b) H→wpAny (model X.prog X.w) X.A (call (.builtin "isinstance") [.ref p,c]) (EP X pins σ Q) X.xe s:=fun {p D dx c b} hp g ok e h=>by
  obtain ⟨ox,od,J,_⟩:=I.inst hp (fun d z=>by
   subst z
   obtain ⟨fs,ed⟩:=ok
   exact (I.hok d _ ed).there)
  exact PySem.W.kia_one (Qs g) I.l_ ⟨ox,od,J⟩ e (fun z=>nomatch z) fun tk=>⟨.bl b,H,I.tok tk,rfl,h⟩
 split at q
 ·
  rename_i p C
  obtain ⟨u,c,rfl,ru,rc⟩:=vals2 rs
  obtain rfl:u=Value.ref p:=ru
  obtain rfl:c=Value.ref C:=rc
  obtain ⟨D,dx,hp,g,ok,q⟩:=q
  cases e:PySem.W.kitOne X.K (.ref D) (.ref C) with
  |none=>rw [e] at q;exact q.elim
  |some b=>rw [e] at q;exact key hp g ok e q
 ·
  rename_i p n
  obtain ⟨u,c,rfl,ru,rc⟩:=vals2 rs
  obtain rfl:u=Value.ref p:=ru
  obtain rfl:c=Value.type n:=rc
  obtain ⟨D,dx,hp,g,ok,q⟩:=q
  cases e:PySem.W.kitOne X.K (.ref D) (.type n) with
  |none=>rw [e] at q;exact q.elim
  |some b=>rw [e] at q;exact key hp g ok e q
 ·exact q.elim
theorem Bm (m:t6 X.K X.mg x C) (hg:Gl X x) (hd:(x == ("__debug__" : Str))=false:=by decide):PE X (.Name x pos) (tC (.ref C)):=EN hg m.JP rfl hd
end
section
variable {X:Cx} {CX:pz} {k n:Nat} {C R:Addr} {ps:List Str} {sp:Sp} {E:XK} {x m:Str} {p pos apos:Pos} {e o:Expr} {es:List Expr} {ta:TE} {t:TA} {st:Stmt} {ts:TS}
theorem PS.nox (h:PS X.nox st ts):PS X st ts:=fun pins s σ H D I hw=>
 wpAny_mono (h pins s σ H D (I.wish _) hw) (fun _ _ q=>q.unwish) fun _ _ z=>False.elim z
theorem HU (G:FnAt X.prog X.w X.K X.mg X.base (fA X.prog X.w) x k ps sp) (hr:cz n X.A) (hk:k≤n) (hg:Gl X x) (hz:Rz X E) (hex:X.ex= []) (ha:PA X (e::es) t)
  (hdb:(x == ("__debug__" : Str))=false:=by decide) (h:(e::es).any isStar=false:=by rfl):PE X (.Call (.Name x p) (e::es) [] pos) (Cj sp [] E t):=by
 obtain ⟨f,fd,F,hm,kp,b,_⟩:=G
 rw [List.any_cons,Bool.or_eq_false_iff] at h
 exact ER F (hr.mono hk) hg hm kp b .nil (hz.passes hex) ha hdb (bJ h.1) (jS h.2)
def Lz (K:PySem.W.Frag) (mg:Str→Option Value) (x:Str) (C R:Addr):Prop:= ∃ini,y4 K mg x C R ini
theorem ou {CX:pz} [Quiet CX] (c:Lz X.K X.mg x C R) (G:cC X.prog X.w X.K X.mg X.base CX C "__init__" k ps sp) (kp:PySem.W.keepIn X.K (.ref C)=true) (hr:cz n X.A) (hk:k+1≤n) (hz:Rz X E) (hc:X.calm=true) (hex:X.ex= []) (hg:Gl X x) (ha:PA X (e::es) t)
  (hdb:(x == ("__debug__" : Str))=false:=by decide) (h:(e::es).any isStar=false:=by rfl) (hlen: ∀us:List Value,us.length+1=ps.length→us.length≤sizeLine:=by intro us h;simp at h;rw [sizeLine_eq];omega):
  PS X (.Raise (some (.Call (.Name x p) (e::es) [] apos)) none pos) (AN C sp E t):=by
 obtain ⟨ini,c⟩:=c
 rw [List.any_cons,Bool.or_eq_false_iff] at h
 exact Ga c G kp (hr.mono hk) hz hc hex hg ha hdb (bJ h.1) (jS h.2) hlen
theorem ye {value:Expr} {f:Str} {pos':Pos} {tv:TE} (c:Lz X.K X.mg x C R) (m:vS X.K C f) (ha:PE X o ta) (hv:PE X value tv) (hs:oP value=false:=by rfl):PS X (.Assign [.Attribute o f pos'] value pos) (G8 C ta tv f):=by
 obtain ⟨ini,c⟩:=c
 exact KG c m ha hv hs
end
theorem MethAt.fnX {P:Program} {w:World} {K:PySem.W.Frag} {mg:Str→Option Value} {base:Heap} {CX:pz} {C:Addr} {m q:Str} {st:Stmt} {N ps:List Str} {k:Nat} {sp:Sp} (F:MethAt K C m q st) (S:aU N ps (aA st))
  (hb: ∀(kV doc pm:Value) (an:Option Addr) (cdv ct:Value) (us:List Value),us.length=ps.length→bindArgs (PySem.W.fnOf m q (di st) (b7 st) (aA st) .none kV doc pm an cdv ct) ⟨us,[]⟩=pure (ps.zip us))
  (len: ∀vs H Q E,sp vs H Q E→vs.length=ps.length)
  (
   hbody: ∀(f:Addr) (cdv:Value) (A:Around) (outer:List Env) (s:Shared) (H:Hp) (vs:List V) (Q:VK) (E:XK),cz k (A.deeper (envOfC q (aA st) s.heap.objs.size f cdv))→sp vs H Q E→
   ∃t,y_ (vL CX P w K mg base N q (aA st) f cdv A outer s H E) (b7 st) t∧t {nx:=fun _ H'=>Q .non H',rt:=Q} (start N vs) H):cC P w K mg base CX C m (k+1) ps sp:=by
 obtain ⟨f,fd,F,hm⟩:=F
 have bd:=F.binds hb
 obtain ⟨oc,od,kV,doc,pm,an,cdv,ct,osl,rfl,lk,hcd⟩:=F.ex
 exact ⟨f,_,E8 lk hcd S len fun A outer s H vs Q E hr hsp=>hbody f cdv A outer s H vs Q E hr hsp,hm,bd⟩
theorem JU {K:PySem.W.Frag} {C:Addr} (ga:PySem.W.findIn K (.ref C) "__getattribute__" = some (some (.builtin "BaseException.__getattribute__"))) (gh:PySem.W.findIn K (.ref C) "__getattr__" = some none) (bx:PySem.W.mroIn K C (.type "BaseException")=some true)
  (ob:PySem.W.mroIn K C (.type "object")=some true) (hd:PySem.W.hasDictIn K C=true) (kc:PySem.W.findIn K (.ref C) "__class__" = some (some (.builtin "object.__class__"))) (kg:PySem.W.specialIn K (.builtin "object.__class__") "__get__" = some (some (.builtin "getset_descriptor.__get__")))
  (kt:PySem.W.takesIn K (.builtin "object.__class__")=some true):lu K C:=⟨ga,gh,bx,ob,hd,kc,kg,kt⟩
theorem JT {K:PySem.W.Frag} {h:Heap} {mg:Str→Option Value} {x:Str} {C:Addr} (X:K.In h) (G:h.Ns mainGlobals mg) (a:PySem.W.nsIn K mainGlobals x=some (some (.ref C))) (t:PySem.W.typeIn K (.ref C)=some (.type "type")) (b:PySem.W.mroIn K C (.type "BaseException")=some true):t6 K mg x C:=
 ⟨PySem.W.mg_of X G a,t,b⟩
def Dn (K:PySem.W.Frag) (H:Hp):Nat→V→Dt→Prop
 |0,x,d=>(x = .non∧d = .non)∨(∃i,x = .int i∧d = .int i)∨(∃z,x = .str z∧d = .str z)∨(∃b,x = .bl b∧d = .int (if b then 1 else 0))
 |n+1,x,d=>Dn K H n x d∨(∃a xs ds,x = .ref a∧d = .l ds∧bU K H a xs∧Paired (Dn K H n) xs ds)∨(∃a xs ds,x = .ref a∧d = .t ds∧iD K H a xs∧Paired (Dn K H n) xs ds)
section
variable {X:Cx} {pins:List (Addr×Obj)} {σ:St} {H:Hp} {s:Shared}
open Classical in
theorem tP {i j:Int}:decide (Dt.int i=Dt.int j)=(i == j):=by
 rw [Bool.eq_iff_iff,decide_eq_true_eq,beq_iff_eq]
 exact ⟨fun q=>Dt.int.inj q,fun q=>by rw [q]⟩
theorem aaX (a b:Bool):((if a then (1:Int) else 0) == (if b then 1 else 0))=(a == b):=by cases a<;>cases b<;>rfl
open Classical in
theorem Lo {A:Around} {x y:V} {u v:Value} {d e:Dt} (rx:RelV x u) (ry:RelV y v) (hx:Dn X.K H 0 x d) (hy:Dn X.K H 0 y e):SeqAt.EqAt A s u v (decide (d=e)):=by
 rcases hx with ⟨rfl,rfl⟩|⟨i,rfl,rfl⟩|⟨i,rfl,rfl⟩|⟨i,rfl,rfl⟩<;>rcases hy with ⟨rfl,rfl⟩|⟨j,rfl,rfl⟩|⟨j,rfl,rfl⟩|⟨j,rfl,rfl⟩
 ·cases rx;cases ry;rw [decide_eq_true rfl];exact SeqAt.EqAt.same _
 ·cases rx;obtain ⟨t,rfl⟩:=ry;rw [decide_eq_false (fun z=>nomatch z)];exact SeqAt.EqAt.none_int _ _
 ·cases rx;obtain ⟨t,rfl⟩:=ry;rw [decide_eq_false (fun z=>nomatch z)];exact SeqAt.EqAt.none_str _ _
 ·cases rx;cases ry;rw [decide_eq_false (fun z=>nomatch z)];exact SeqAt.EqAt.none_bool _
 ·obtain ⟨t,rfl⟩:=rx;cases ry;rw [decide_eq_false (fun z=>nomatch z)];exact SeqAt.EqAt.int_none _ _
 ·obtain ⟨t,rfl⟩:=rx;obtain ⟨t',rfl⟩:=ry;rw [tP];exact SeqAt.EqAt.int_int _ _ _ _
 ·obtain ⟨t,rfl⟩:=rx;obtain ⟨t',rfl⟩:=ry;rw [decide_eq_false (fun z=>nomatch z)];exact SeqAt.EqAt.int_str _ _ _ _
 ·obtain ⟨t,rfl⟩:=rx;cases ry;rw [tP];exact SeqAt.EqAt.int_bool _ _ _
 ·obtain ⟨t,rfl⟩:=rx;cases ry;rw [decide_eq_false (fun z=>nomatch z)];exact SeqAt.EqAt.str_none _ _
 ·obtain ⟨t,rfl⟩:=rx;obtain ⟨t',rfl⟩:=ry;rw [decide_eq_false (fun z=>nomatch z)];exact SeqAt.EqAt.str_int _ _ _ _
 ·
  obtain ⟨t,rfl⟩:=rx;obtain ⟨t',rfl⟩:=ry
  have e:decide (Dt.str i=Dt.str j)=(i == j):=by
   rw [Bool.eq_iff_iff,decide_eq_true_eq,beq_iff_eq]
   exact ⟨fun q=>Dt.str.inj q,fun q=>by rw [q]⟩
  rw [e];exact SeqAt.EqAt.str_str _ _ _ _
 ·obtain ⟨t,rfl⟩:=rx;cases ry;rw [decide_eq_false (fun z=>nomatch z)];exact SeqAt.EqAt.str_bool _ _ _
 ·cases rx;cases ry;rw [decide_eq_false (fun z=>nomatch z)];exact SeqAt.EqAt.bool_none _
 ·cases rx;obtain ⟨t,rfl⟩:=ry;rw [tP];exact SeqAt.EqAt.bool_int _ _ _
 ·cases rx;obtain ⟨t,rfl⟩:=ry;rw [decide_eq_false (fun z=>nomatch z)];exact SeqAt.EqAt.bool_str _ _ _
 ·cases rx;cases ry;rw [tP,aaX];exact SeqAt.EqAt.bool_bool _ _
theorem Dn.cases {K:PySem.W.Frag} {H:Hp}: ∀{n:Nat} {x:V} {d:Dt},Dn K H n x d→Dn K H 0 x d∨(∃m,m<n∧∃a xs ds,x = .ref a∧d = .l ds∧bU K H a xs∧Paired (Dn K H m) xs ds)∨(∃m,m<n∧∃a xs ds,x = .ref a∧d = .t ds∧iD K H a xs∧Paired (Dn K H m) xs ds)
 |0,_,_,h=> .inl h
 |n+1,_,_,h=>by
  rcases h with h|h|h
  ·
   rcases Dn.cases h with q|⟨m,hm,q⟩|⟨m,hm,q⟩
   ·exact .inl q
   ·exact .inr (.inl ⟨m,by omega,q⟩)
   ·exact .inr (.inr ⟨m,by omega,q⟩)
  ·exact .inr (.inl ⟨n,by omega,h⟩)
  ·exact .inr (.inr ⟨n,by omega,h⟩)
theorem Dn.up {K:PySem.W.Frag} {H:Hp} {n m:Nat} {x:V} {d:Dt} (h:Dn K H n x d) (hm:n≤m):Dn K H m x d:=by
  induction m with
  |zero=>
            have:n=0:=by omega
            subst this;exact h
  |
    succ m ih=>
    by_cases e:n=m+1
    · subst e;exact h
    · exact .inl (ih (by omega))
theorem Rw (n:Nat): ∀{m:Nat} {x:V} {d e:Dt},Inv X pins σ H s→Dn X.K H n x d→Dn X.K H m x e→d=e:=by
 induction n using Nat.strongRecOn with
 |_ n ih=>
 intro m x d e I hx hy
 rcases hx.cases with hx|⟨m1,hm,a,xs,ds,rfl,rfl,ha,pa⟩|⟨m1,hm,a,xs,ds,rfl,rfl,ha,pa⟩
 ·
  rcases hy.cases with hy|⟨k,hk,b,ys,es,rfl,rfl,hb,pb⟩|⟨k,hk,b,ys,es,rfl,rfl,hb,pb⟩
  ·rcases hx with ⟨rfl,rfl⟩|⟨i,rfl,rfl⟩|⟨i,rfl,rfl⟩|⟨i,rfl,rfl⟩<;>rcases hy with ⟨z,rfl⟩|⟨j,z,rfl⟩|⟨j,z,rfl⟩|⟨j,z,rfl⟩<;>first|rfl|(cases z;rfl)|cases z
  ·rcases hx with ⟨z,_⟩|⟨i,z,_⟩|⟨i,z,_⟩|⟨i,z,_⟩<;>cases z
  ·rcases hx with ⟨z,_⟩|⟨i,z,_⟩|⟨i,z,_⟩|⟨i,z,_⟩<;>cases z
 ·
  rcases hy.cases with hy|⟨k,hk,b,ys,es,e1,rfl,hb,pb⟩|⟨k,hk,b,ys,es,e1,rfl,hb,pb⟩
  ·rcases hy with ⟨z,_⟩|⟨i,z,_⟩|⟨i,z,_⟩|⟨i,z,_⟩<;>cases z
  ·
   cases e1
   have:=I.CF ha hb
   subst this
   rw [rV pa pb fun x d e h1 h2=>ih m1 hm I h1 h2]
  ·
   cases e1
   exact (pW I ha hb).elim
 ·
  rcases hy.cases with hy|⟨k,hk,b,ys,es,e1,rfl,hb,pb⟩|⟨k,hk,b,ys,es,e1,rfl,hb,pb⟩
  ·rcases hy with ⟨z,_⟩|⟨i,z,_⟩|⟨i,z,_⟩|⟨i,z,_⟩<;>cases z
  ·
   cases e1
   exact (pW I hb ha).elim
  ·
   cases e1
   have:=I.Ai ha hb
   subst this
   rw [rV pa pb fun x d e h1 h2=>ih m1 hm I h1 h2]
open Classical in
theorem CQ {n:Nat} {A:Around} {xs ys:List V} {its its2:List Value} {ds es:List Dt} {m k:Nat} (r1:Vals xs its) (r2:Vals ys its2) (pa:Paired (Dn X.K H m) xs ds) (pb:Paired (Dn X.K H k) ys es)
  (ih: ∀x y u v d e,RelV x u→RelV y v→Dn X.K H m x d→Dn X.K H k y e→SeqAt.EqAt A s u v (decide (d=e))):
  ∀j (h1:j<its.toArray.size) (h2:j<its2.toArray.size),SeqAt.EqAt A s its.toArray[j] its2.toArray[j] (decide (ds[j]?=es[j]?)):=by
 intro j h1 h2
 have h1':j<its.length:=by simpa using h1
 have h2':j<its2.length:=by simpa using h2
 have l1:=r1.length
 have l2:=r2.length
 have x1:xs[j]?=some xs[j]:=by simp
 have y1:ys[j]?=some ys[j]:=by simp
 obtain ⟨d',hd',pd⟩:=Paired.get pa x1
 obtain ⟨e',he',pe⟩:=Paired.get pb y1
 obtain ⟨u',hu1,ru⟩:=r1.get x1
 obtain ⟨v',hv1,rv⟩:=r2.get y1
 have e1:its.toArray[j]=u':=by
  have:its[j]?=some its[j]:=by simp
  rw [hu1] at this
  simpa using (Option.some.inj this).symm
 have e2:its2.toArray[j]=v':=by
  have:its2[j]?=some its2[j]:=by simp
  rw [hv1] at this
  simpa using (Option.some.inj this).symm
 have e3:decide (ds[j]?=es[j]?)=decide (d'=e'):=by
  rw [hd',he',Bool.eq_iff_iff,decide_eq_true_eq,decide_eq_true_eq]
  exact ⟨fun q=>Option.some.inj q,fun q=>by rw [q]⟩
 rw [e1,e2,e3]
 exact ih _ _ _ _ _ _ ru rv pd pe
open Classical in
theorem aaT (n:Nat): ∀{A:Around} {x y:V} {u v:Value} {d e:Dt},Inv X pins σ H s→A.units+n<cLine→RelV x u→RelV y v→Dn X.K H n x d→Dn X.K H n y e→SeqAt.EqAt A s u v (decide (d=e))∧∀a b,x = .ref a→y = .ref b→SeqAt.RcAt A s (.ref a) (.ref b) (decide (d=e)):=by
 induction n using Nat.strongRecOn with
 |_ n ih=>
 intro A x y u v d e I hu rx ry hx hy
 have lift: ∀{a b:Addr},x = .ref a→y = .ref b→SeqAt.RcAt A s (.ref a) (.ref b) (decide (d=e))→SeqAt.EqAt A s (.ref a) (.ref b) (decide (d=e)):=fun {a b} ea eb q=>by
  by_cases hab:a=b
  ·
   subst hab
   subst ea
   subst eb
   rw [decide_eq_true (Rw n I hx hy)]
   exact SeqAt.EqAt.same _
  ·exact SeqAt.EqAt.of_refs hab q
 have hu':A.units<cLine:=by omega
 rcases hx.cases with hx'|⟨m,hm,a,xs,ds,rfl,rfl,ha,pa⟩|⟨m,hm,a,xs,ds,rfl,rfl,ha,pa⟩
 ·
  rcases hy.cases with hy'|⟨k,hk,b,ys,es,rfl,rfl,hb,pb⟩|⟨k,hk,b,ys,es,rfl,rfl,hb,pb⟩
  ·
   refine ⟨Lo rx ry hx' hy',fun a b e1 e2=>?_⟩
   subst e1
   rcases hx' with ⟨z,_⟩|⟨i,z,_⟩|⟨i,z,_⟩|⟨i,z,_⟩<;>cases z
  ·
   cases ry
   obtain ⟨its,_,p,_⟩:=I.list hb
   rcases hx' with ⟨rfl,rfl⟩|⟨i,rfl,rfl⟩|⟨i,rfl,rfl⟩|⟨i,rfl,rfl⟩
   ·cases rx;rw [decide_eq_false (fun z=>nomatch z)];exact ⟨SeqAt.EqAt.none_list p.isList hu',fun a b z=>nomatch z⟩
   ·obtain ⟨t,rfl⟩:=rx;rw [decide_eq_false (fun z=>nomatch z)];exact ⟨SeqAt.EqAt.int_list _ _ p.isList hu',fun a b z=>nomatch z⟩
   ·obtain ⟨t,rfl⟩:=rx;rw [decide_eq_false (fun z=>nomatch z)];exact ⟨SeqAt.EqAt.str_list _ _ p.isList hu',fun a b z=>nomatch z⟩
   ·cases rx;rw [decide_eq_false (fun z=>nomatch z)];exact ⟨SeqAt.EqAt.bool_list _ p.isList hu',fun a b z=>nomatch z⟩
  ·
   cases ry
   obtain ⟨its,_,p,_⟩:=I.tuple hb
   rcases hx' with ⟨rfl,rfl⟩|⟨i,rfl,rfl⟩|⟨i,rfl,rfl⟩|⟨i,rfl,rfl⟩
   ·cases rx;rw [decide_eq_false (fun z=>nomatch z)];exact ⟨SeqAt.EqAt.none_tuple p hu',fun a b z=>nomatch z⟩
   ·obtain ⟨t,rfl⟩:=rx;rw [decide_eq_false (fun z=>nomatch z)];exact ⟨SeqAt.EqAt.int_tuple _ _ p hu',fun a b z=>nomatch z⟩
   ·obtain ⟨t,rfl⟩:=rx;rw [decide_eq_false (fun z=>nomatch z)];exact ⟨SeqAt.EqAt.str_tuple _ _ p hu',fun a b z=>nomatch z⟩
   ·cases rx;rw [decide_eq_false (fun z=>nomatch z)];exact ⟨SeqAt.EqAt.bool_tuple _ p hu',fun a b z=>nomatch z⟩
 ·
  cases rx
  obtain ⟨its,r1,p,hz⟩:=I.list ha
  rcases hy.cases with hy'|⟨k,hk,b,ys,es,rfl,rfl,hb,pb⟩|⟨k,hk,b,ys,es,rfl,rfl,hb,pb⟩
  ·
   rcases hy' with ⟨rfl,rfl⟩|⟨i,rfl,rfl⟩|⟨i,rfl,rfl⟩|⟨i,rfl,rfl⟩
   ·cases ry;rw [decide_eq_false (fun z=>nomatch z)];exact ⟨SeqAt.EqAt.list_none p.isList hu',fun a b _ z=>nomatch z⟩
   ·obtain ⟨t,rfl⟩:=ry;rw [decide_eq_false (fun z=>nomatch z)];exact ⟨SeqAt.EqAt.list_int _ _ p.isList hu',fun a b _ z=>nomatch z⟩
   ·obtain ⟨t,rfl⟩:=ry;rw [decide_eq_false (fun z=>nomatch z)];exact ⟨SeqAt.EqAt.list_str _ _ p.isList hu',fun a b _ z=>nomatch z⟩
   ·cases ry;rw [decide_eq_false (fun z=>nomatch z)];exact ⟨SeqAt.EqAt.list_bool _ p.isList hu',fun a b _ z=>nomatch z⟩
  ·
   cases ry
   obtain ⟨its2,r2,p2,hz2⟩:=I.list hb
   have l1:=r1.length
   have l2:=r2.length
   have l3:=Paired.length pa
   have l4:=Paired.length pb
   have eqd:decide (Dt.l ds=Dt.l es)=decide (ds=es):=by
    rw [Bool.eq_iff_iff,decide_eq_true_eq,decide_eq_true_eq]
    exact ⟨fun q=>Dt.l.inj q,fun q=>by rw [q]⟩
   have rc:SeqAt.RcAt A s (.ref a) (.ref b) (decide (Dt.l ds=Dt.l es)):=by
    rw [eqd]
    by_cases hl:its.length=its2.length
    ·have key:=SeqAt.RcAt.lists (e:=fun j=>decide (ds[j]?=es[j]?)) p.isList p2.isList (by simpa using hl) hu' (CQ (n:=n) r1 r2 pa pb fun x y u v d e rx ry h1 h2=>
      (ih (max m k) (by omega) (A:=A.in1) I (by show A.units+1+max m k<cLine;omega) rx ry (h1.up (Nat.le_max_left _ _)) (h2.up (Nat.le_max_right _ _))).1)
     rw [AJ (by rw [List.size_toArray];omega) (by omega)] at key
     exact key
    ·
     have hne:ds≠es:=fun q=>hl (by rw [q] at l3;omega)
     rw [decide_eq_false hne]
     exact SeqAt.RcAt.lists_lengths p.isList p2.isList (J4 hl) hu'
   exact ⟨lift rfl rfl rc,fun a' b' e1 e2=>by cases e1;cases e2;exact rc⟩
  ·
   cases ry
   obtain ⟨its2,r2,p2,_⟩:=I.tuple hb
   rw [decide_eq_false (fun z=>nomatch z)]
   exact ⟨SeqAt.EqAt.list_tuple p.isList p2 hu',fun a' b' e1 e2=>by cases e1;cases e2;exact SeqAt.RcAt.list_tuple p.isList p2 hu'⟩
 ·
  cases rx
  obtain ⟨its,r1,p,hz⟩:=I.tuple ha
  rcases hy.cases with hy'|⟨k,hk,b,ys,es,rfl,rfl,hb,pb⟩|⟨k,hk,b,ys,es,rfl,rfl,hb,pb⟩
  ·
   rcases hy' with ⟨rfl,rfl⟩|⟨i,rfl,rfl⟩|⟨i,rfl,rfl⟩|⟨i,rfl,rfl⟩
   ·cases ry;rw [decide_eq_false (fun z=>nomatch z)];exact ⟨SeqAt.EqAt.tuple_none p hu',fun a b _ z=>nomatch z⟩
   ·obtain ⟨t,rfl⟩:=ry;rw [decide_eq_false (fun z=>nomatch z)];exact ⟨SeqAt.EqAt.tuple_int _ _ p hu',fun a b _ z=>nomatch z⟩
   ·obtain ⟨t,rfl⟩:=ry;rw [decide_eq_false (fun z=>nomatch z)];exact ⟨SeqAt.EqAt.tuple_str _ _ p hu',fun a b _ z=>nomatch z⟩
   ·cases ry;rw [decide_eq_false (fun z=>nomatch z)];exact ⟨SeqAt.EqAt.tuple_bool _ p hu',fun a b _ z=>nomatch z⟩
  ·
   cases ry
   obtain ⟨its2,r2,p2,_⟩:=I.list hb
   rw [decide_eq_false (fun z=>nomatch z)]
   exact ⟨SeqAt.EqAt.tuple_list p p2.isList hu',fun a' b' e1 e2=>by cases e1;cases e2;exact SeqAt.RcAt.tuple_list p p2.isList hu'⟩
  ·
   cases ry
   obtain ⟨its2,r2,p2,hz2⟩:=I.tuple hb
   have l1:=r1.length
   have l2:=r2.length
   have l3:=Paired.length pa
   have l4:=Paired.length pb
   have eqd:decide (Dt.t ds=Dt.t es)=decide (ds=es):=by
    rw [Bool.eq_iff_iff,decide_eq_true_eq,decide_eq_true_eq]
    exact ⟨fun q=>Dt.t.inj q,fun q=>by rw [q]⟩
   have rc:SeqAt.RcAt A s (.ref a) (.ref b) (decide (Dt.t ds=Dt.t es)):=by
    rw [eqd]
    have key:=SeqAt.RcAt.tuples (e:=fun j=>decide (ds[j]?=es[j]?)) p p2 hu' (CQ (n:=n) r1 r2 pa pb fun x y u v d e rx ry h1 h2=>
      (ih (max m k) (by omega) (A:=A.in1) I (by show A.units+1+max m k<cLine;omega) rx ry (h1.up (Nat.le_max_left _ _)) (h2.up (Nat.le_max_right _ _))).1)
    by_cases hl:its.length=its2.length
    ·
     rw [show min its.toArray.size its2.toArray.size=ds.length by rw [List.size_toArray,List.size_toArray];omega,AJ rfl (by omega),show (its.toArray.size == its2.toArray.size)=true by rw [List.size_toArray,List.size_toArray,beq_iff_eq];exact hl,Bool.and_true] at key
     exact key
    ·
     have hne:ds≠es:=fun q=>hl (by rw [q] at l3;omega)
     rw [decide_eq_false hne]
     rw [show (its.toArray.size == its2.toArray.size)=false by rw [List.size_toArray,List.size_toArray,beq_eq_false_iff_ne];exact hl,Bool.and_false] at key
     exact key
   exact ⟨lift rfl rfl rc,fun a' b' e1 e2=>by cases e1;cases e2;exact rc⟩
end
def yc (K:PySem.W.Frag) (neg:Bool):R2:=fun x y H Q=>match x,y with
 | .ref a,.ref b=> ∃n d e,n≤60∧Dn K H n (.ref a) d∧Dn K H n (.ref b) e∧((d=e∧Q (.bl (!neg)) H)∨(d≠e∧Q (.bl neg) H))
 |x,y=>scal x y=true∧Q (.bl (if neg then !decide (x=y) else decide (x=y))) H
section
variable {X:Cx}
open Classical in
theorem Qj (hu:X.A.units+64<cLine):my X (compareOp .Eq) (yc X.K false):=by
 intro pins s σ H x y v u Q I rx ry h
 unfold yc at h
 split at h
 ·
  obtain ⟨n,d,e,hn,hd,he,q⟩:=h
  obtain ⟨_,rc⟩:=aaT n (A:=X.A) I (by omega) rx ry hd he
  cases rx
  cases ry
  have:=rc _ _ rfl rfl
  refine (this X.prog X.w _ _ ?_:wpAny (model X.prog X.w) X.A (richCompare .Eq _ _) (EP X pins σ Q) X.xe s)
  rcases q with ⟨c,q⟩|⟨c,q⟩
  ·rw [decide_eq_true c];exact ⟨.bl true,H,I,rfl,q⟩
  ·rw [decide_eq_false c];exact ⟨.bl false,H,I,rfl,q⟩
 ·exact Sy pins s σ H _ _ v u Q I rx ry ⟨h.1,by simpa using h.2⟩
open Classical in
end
section
variable {K:PySem.W.Frag} {H:Hp} {Q:VK}
theorem bq {X:Cx} (K:PySem.W.Frag) (h:X.K=K) (hu:X.A.units+64<cLine):my X (compareOp .Eq) (yc K false):=h▸Qj hu
theorem HB {i j:Int}:yc K false (.int i) (.int j) H Q=Q (.bl (decide (i=j))) H:=by
 show (scal (.int i) (.int j)=true∧Q (.bl (if false=true then _ else decide (V.int i=V.int j))) H)=_
 rw [if_neg Bool.false_ne_true]
 exact Bf
theorem Hi {i j:Int}:yc K true (.int i) (.int j) H Q=Q (.bl (!decide (i=j))) H:=by
 show (scal (.int i) (.int j)=true∧Q (.bl (if true=true then !decide (V.int i=V.int j) else _)) H)=_
 rw [if_pos rfl]
 exact Bc
theorem HA {i j:Str}:yc K false (.str i) (.str j) H Q=Q (.bl (decide (i=j))) H:=by
 show (scal (.str i) (.str j)=true∧Q (.bl (if false=true then _ else decide (V.str i=V.str j))) H)=_
 rw [if_neg Bool.false_ne_true]
 exact Be
theorem Hh {i j:Str}:yc K true (.str i) (.str j) H Q=Q (.bl (!decide (i=j))) H:=by
 show (scal (.str i) (.str j)=true∧Q (.bl (if true=true then !decide (V.str i=V.str j) else _)) H)=_
 rw [if_pos rfl]
 exact A_
theorem Kx {i j:Bool}:yc K false (.bl i) (.bl j) H Q=Q (.bl (decide (i=j))) H:=by
 show (scal (.bl i) (.bl j)=true∧Q (.bl (if false=true then _ else decide (V.bl i=V.bl j))) H)=_
 rw [if_neg Bool.false_ne_true]
 exact DK
theorem J_ {i j:Bool}:yc K true (.bl i) (.bl j) H Q=Q (.bl (!decide (i=j))) H:=by
 show (scal (.bl i) (.bl j)=true∧Q (.bl (if true=true then !decide (V.bl i=V.bl j) else _)) H)=_
 rw [if_pos rfl]
 exact DA
theorem yW {n:Nat} {i:Int}:Dn K H n (.int i) (.int i):=Dn.up (n:=0) (.inr (.inl ⟨i,rfl,rfl⟩)) (Nat.zero_le _)
theorem D9 {n:Nat} {z:Str}:Dn K H n (.str z) (.str z):=Dn.up (n:=0) (.inr (.inr (.inl ⟨z,rfl,rfl⟩))) (Nat.zero_le _)
theorem O7 {n:Nat} {b:Bool}:Dn K H n (.bl b) (.int (if b then 1 else 0)):=Dn.up (n:=0) (.inr (.inr (.inr ⟨b,rfl,rfl⟩))) (Nat.zero_le _)
theorem vE {n:Nat} {a:Addr} {xs:List V} {ds:List Dt} (h:H a=some (.lst xs)) (p:Paired (Dn K H n) xs ds):Dn K H (n+1) (.ref a) (.l ds):= .inr (.inl ⟨a,xs,ds,rfl,rfl,bU.of h,p⟩)
theorem vD {n:Nat} {a:Addr} {xs:List V} {ds:List Dt} (h:H a=some (.tup xs)) (p:Paired (Dn K H n) xs ds):Dn K H (n+1) (.ref a) (.t ds):= .inr (.inr ⟨a,xs,ds,rfl,rfl,iD.of h,p⟩)
end
theorem Qa {X:Cx} {es:List Expr} {pos:Pos} {k:Nat} {t:y7} {n:Nat} {a:Addr} {xs:List V} (hc:X.calm=true) (h:JS X es t) (hn:es.length=n) (hst:es.any isStar=false)
  {pins:List (Addr×Obj)} {s:Shared} {σ:St} {H:Hp} {Q:St→Hp→Prop} (I:Inv X pins σ H s) (hq:bU X.K H a xs) (hl:xs.length=n) (hw:t xs σ H Q):
  wpAny (model X.prog X.w) X.A (assign (.Tuple es k pos) X.env (.ref a)) (fun _ s'=> ∃σ' H',Inv X pins σ' H' s'∧Q σ' H') X.xe s:=by
 obtain ⟨its,rv,hp,hz⟩:=I.list hq
 rw [arm_assign_Tuple]
 refine wpAny_bind (wpAny_standAt ?_)
 unfold unpack
 rw [show (assignEach es X.env).length=its.toArray.size by rw [mw,hn,←hl,List.size_toArray,rv.length],iB hst]
 refine wpAny_bind (wpAny_holding (PySem.W.kun_itemsOf (I.ok.hd hc) hp.isList fun h' hx=>?_))
 have I1:Inv X pins σ H {s with heap:=h'}:=I.kept (t':=s.toks) fun b o e=>hx b o (Nat.ne_of_lt (Heap.lt_size e)) e
 exact h pins _ σ H xs _ Q I1 (by simpa using rv) hw
def gOx (K:PySem.W.Frag) (n:Nat) (t:y7) (a:Addr) (σ:St) (H:Hp) (Q:St→Hp→Prop):Option HO→Prop
 |some (.tup xs)=>xs.length=n∧t xs σ H Q
 |some (.lst xs)=>xs.length=n∧t xs σ H Q
 |_=> ∃xs,iD K H a xs∧xs.length=n∧t xs σ H Q
def Jp (K:PySem.W.Frag) (n:Nat) (t:y7):TG:=fun v σ H Q=>match v with
 | .ref a=>gOx K n t a σ H Q (H a)
 |_=>False
theorem GA {K:PySem.W.Frag} {n:Nat} {t:y7} {a:Addr} {σ:St} {H:Hp} {Q:St→Hp→Prop}:Jp K n t (.ref a) σ H Q=gOx K n t a σ H Q (H a):=rfl
theorem Lh {K:PySem.W.Frag} {n:Nat} {t:y7} {a:Addr} {σ:St} {H:Hp} {Q:St→Hp→Prop} {xs:List V}:gOx K n t a σ H Q (some (.tup xs))=(xs.length=n∧t xs σ H Q):=rfl
theorem Li {K:PySem.W.Frag} {n:Nat} {t:y7} {a:Addr} {σ:St} {H:Hp} {Q:St→Hp→Prop} {xs:List V}:gOx K n t a σ H Q (some (.lst xs))=(xs.length=n∧t xs σ H Q):=rfl
theorem Bl {X:Cx} {es:List Expr} {pos:Pos} (K:PySem.W.Frag) {j n:Nat} {u:y7} (hK:X.K=K) (hc:X.calm=true) (hh:JS X es u) (hn:es.length=n:=by rfl) (h:es.any isStar=false:=by rfl):PG X (.Tuple es j pos) (Jp K n u):=by
 intro pins s σ H v w Q I r q
 unfold Jp at q
 split at q
 ·
  rename_i a
  unfold gOx at q
  split at q
  ·rename_i xs e;exact EL K (j:=j) hK hc hh hn h pins s σ H _ w Q I r ⟨a,xs,rfl,iD.of e,q⟩
  ·
   rename_i xs e
   obtain rfl:w=Value.ref a:=r
   exact Qa hc hh hn h I (bU.of e) q.1 q.2
  ·obtain ⟨xs,h1,h2⟩:=q;exact EL K (j:=j) hK hc hh hn h pins s σ H _ w Q I r ⟨a,xs,rfl,h1,h2⟩
 ·exact q.elim
structure QA (X:Cx) (es:List Expr) (t:TA):Prop where
 h:PA X es t
section
variable {X:Cx}
theorem bw:QA X [] AO:=⟨aq⟩
theorem aX {e:Expr} {es:List Expr} {te:TE} {t:TA} (ha:QE X e te) (hr:QA X es t) (h:isStar e=false:=by rfl):QA X (e::es) (sL te t):=⟨ax ha.h hr.h h⟩
theorem bH {es:List Expr} {t:TA} {k:Nat} {pos:Pos} (h:QA X es t):QE X (.Tuple es k pos) (Pk t):=⟨cK h.h⟩
theorem rR {es:List Expr} {t:TA} {pos:Pos} (h:QA X es t):QE X (.List es pos) (Pq t):=⟨cw h.h⟩
theorem P1 {e:Expr} {te:TE} {pos:Pos} (h:QE X e te):QS X (.Return (some e) pos) (Pn te):=⟨ba h.h⟩
theorem yd {e:Expr} {t:TT} {a b:List Stmt} {ta tb:TS} {pos:Pos} (h:PT X e t) (ha:Fl X a ta) (hb:Fl X b tb):QS X (.If e a b pos) (Pr t ta tb):=⟨nA h ha.h hb.h⟩
theorem ot:Fl X [] GX:=⟨c9⟩
end
end L2
namespace WaysM
noncomputable def nsp (a A b B m:Int):Int×Int:=low (3*b*A+((a - m*A).natAbs:Int)*B) (4*(A*B))
noncomputable def nsm (a A m:Int):Int×Int:=low (3*a+m*A) (4*A)
structure St (n:Nat) (P S D a A b B:Int):Prop where
 p:P=4 ^ n
 s0:0≤S
 s1:S≤1000000*P
 d0:0≤D
 d1:D≤2000000*P
 sa:a*P=S*A
 db:b*(2*P)=D*B
 a0:0≤a
 b0:0≤b
 pa: ∃i,A=2 ^ i
 pb: ∃j,B=2 ^ j
 oa: ¬(a % 2=0∧A % 2=0)
 ob: ¬(b % 2=0∧B % 2=0)
end WaysM
namespace L2
open PySem PySem.Spec PyProof.Rows
def PZ:V→List V→Hp→VK→Prop:=fun x vs H Q=>match x,vs with
 | .str z,[.str y]=>Q (.int (match Builtin.Str.occurrences z y 0 z.length 1 with|i::_=>(i:Int) | []=>-1)) H
 |_,_=>False
def Kt:V→List V→Hp→VK→Prop:=fun x vs H Q=>match x,vs with
 | .str z,[.str y]=> ∃i r,Builtin.Str.occurrences z y 0 z.length 1=i::r∧Q (.int (i:Nat)) H
 |_,_=>False
noncomputable def ljS (z:Str) (i:Int):Str:=if i≤z.length then z else Builtin.Str.padded z 0 (i.toNat - z.length) 32
def PM:V→List V→Hp→VK→Prop:=fun x vs H Q=>match x,vs with
 | .str z,[.int i]=>(0≤i∧i≤1000)∧(ljS z i).length≤sizeLine∧Q (.str (ljS z i)) H
 |_,_=>False
section
variable {X:Cx}
end
def E2 (ss:List Str) (y:Str) (j:Nat):Prop:=ss[j]?=some y∧∀m,m<j→ss[m]?≠some y
def Ks (K:PySem.W.Frag):V→List V→Hp→VK→Prop:=fun x vs H Q=>match x,vs with
 | .ref p,[.str y]=> ∃ss:List Str,iD K H p (ss.map V.str)∧∃j,E2 ss y j∧Q (.int (j:Nat)) H
 |_,_=>False
def Ku (K:PySem.W.Frag):V→List V→Hp→VK→Prop:=fun x vs H Q=>match x,vs with
 | .ref p,[.str y]=> ∃ss:List Str,bU K H p (ss.map V.str)∧∃j,E2 ss y j∧Q (.int (j:Nat)) H
 |_,_=>False
section
variable {X:Cx}
end
def rJoin (K:PySem.W.Frag):V→List V→Hp→VK→Prop:=fun x vs H Q=>match x,vs with
 | .str z,[.ref p]=> ∃ss:List Str,bU K H p (ss.map V.str)∧(ss.map (·.length)).sum+ss.length*z.length≤1000000∧Q (.str (Txt.join z ss)) H
 |_,_=>False
theorem Af: ∀{ss:List Str} {its:List Value},Vals (ss.map V.str) its→StrsAre its ss
 | [],_,.nil=> .nil
 |_::_,_,.cons r rr=>by
  obtain ⟨t,rfl⟩:=r
  exact .cons _ _ (Af rr)
theorem K0 {X:Cx}:MtR X "str.join" (rJoin X.K):=by
 intro pins s σ H x vs v us Q I rx rv h
 unfold rJoin at h
 split at h
 ·
  rename_i z p
  obtain ⟨ss,hq,hl,h⟩:=h
  obtain ⟨t,rfl⟩:=rx
  obtain ⟨u,rfl,ru⟩:=Vals.one rv
  obtain rfl:u=Value.ref p:=ru
  obtain ⟨its,r,pl,hz⟩:=I.list hq
  refine join_list pl.isList (by simpa using Af r) (by omega) fun t' k=>(show EP X pins σ Q _ _ from ⟨.str _,H,I.tok _,⟨_,rfl⟩,h⟩)
 ·exact h.elim
noncomputable def QG:Option Bool→Option Bool→Option Bool
 |some true,_=>some true
 |some false,o=>o
 |none,_=>none
theorem QD {o:Option Bool}:QG (some true) o=some true:=rfl
theorem QF {o:Option Bool}:QG (some false) o=o:=rfl
theorem Iu {K:PySem.W.Frag} {t c d:Value}:PySem.W.kitAny K t [c,d]=QG (PySem.W.kitOne K t c) (PySem.W.kitOne K t d):=by
 unfold PySem.W.kitAny PySem.W.kitAny PySem.W.kitAny
 cases PySem.W.kitOne K t c with
 |none=>rfl
 |some b=>
  cases b
  ·
   cases PySem.W.kitOne K t d with
   |none=>rfl
   |some b=>cases b<;>rfl
  ·rfl
def IA (N:Addr→Addr→Prop):Option HO→Prop
 |some (.tup [.ref C,.ref D])=>N C D
 |_=>False
theorem K6 {N:Addr→Addr→Prop} {C D:Addr}:IA N (some (.tup [.ref C,.ref D]))=N C D:=rfl
def PQ (K:PySem.W.Frag):List V→Hp→VK→Prop:=fun xs H Q=>match xs with
 | [.ref p,.ref t]=> ∃D dx,H p=some (.ext (kP p (.ref D) dx))∧lu K D∧AL H dx∧IA (fun C1 C2=>BD (PySem.W.kitAny K (.ref D) [.ref C1,.ref C2]) fun b=>Q (.bl b) H) (H t)
 |_=>False
theorem DG {K:PySem.W.Frag} {p t:Addr} {H:Hp} {Q:VK}:PQ K [.ref p,.ref t] H Q= ∃D dx,H p=some (.ext (kP p (.ref D) dx))∧lu K D∧AL H dx∧IA (fun C1 C2=>BD (PySem.W.kitAny K (.ref D) [.ref C1,.ref C2]) fun b=>Q (.bl b) H) (H t):=rfl
section
variable {X:Cx} {e:Expr} {f:Str} {ta:TE} {pos:Pos}
def DI (K:PySem.W.Frag) (f:Str) (x:V) (H:Hp) (Q:VK):Prop:= ∃a,x = .ref a∧∃C dx,H a=some (.ext (kP a (.ref C) dx))∧lu K C∧vS K C f∧∃d,dx=some d∧∃fs,H d=some (.xd fs)∧∃v,fs.lookup f=some v∧Q v H
def Pt (K:PySem.W.Frag) (f:Str) (ta:TE):TE:=fun σ H Q=>ta σ H fun x H1=>DI K f x H1 Q
theorem DH {K:PySem.W.Frag} {a:Addr} {f:Str} {H:Hp} {Q:VK}:DI K f (.ref a) H Q= ∃C dx,H a=some (.ext (kP a (.ref C) dx))∧lu K C∧vS K C f∧∃d,dx=some d∧∃fs,H d=some (.xd fs)∧∃v,fs.lookup f=some v∧Q v H:=by
 apply propext;unfold DI;constructor
 ·rintro ⟨b,e,h⟩;cases e;exact h
 ·exact fun h=>⟨a,rfl,h⟩
theorem aaQ {d:Addr} {N:Addr→Prop}:(∃x,some d=some x∧N x)=N d:=by
 apply propext;constructor
 ·rintro ⟨x,e,h⟩;cases e;exact h
 ·exact fun h=>⟨d,rfl,h⟩
end
section
variable {K:PySem.W.Frag} {H:Hp} {Q:VK} {z y:Str} {p:Addr} {i:Int}
theorem DJ:PZ (.str z) [.str y] H Q=Q (.int (match Builtin.Str.occurrences z y 0 z.length 1 with|i::_=>(i:Int) | []=>-1)) H:=rfl
theorem Cv:Kt (.str z) [.str y] H Q= ∃i r,Builtin.Str.occurrences z y 0 z.length 1=i::r∧Q (.int (i:Nat)) H:=rfl
theorem DB:PM (.str z) [.int i] H Q=((0≤i∧i≤1000)∧(ljS z i).length≤sizeLine∧Q (.str (ljS z i)) H):=rfl
theorem Cu:Ks K (.ref p) [.str y] H Q= ∃ss:List Str,iD K H p (ss.map V.str)∧∃j,E2 ss y j∧Q (.int (j:Nat)) H:=rfl
theorem Cw:Ku K (.ref p) [.str y] H Q= ∃ss:List Str,bU K H p (ss.map V.str)∧∃j,E2 ss y j∧Q (.int (j:Nat)) H:=rfl
theorem FW:rJoin K (.str z) [.ref p] H Q= ∃ss:List Str,bU K H p (ss.map V.str)∧(ss.map (·.length)).sum+ss.length*z.length≤1000000∧Q (.str (Txt.join z ss)) H:=rfl
end
section
variable {X:Cx} (K:PySem.W.Frag)
theorem Ii (h:X.K=K):MtR X "str.join" (rJoin K):=h▸K0
end
section
variable {K:PySem.W.Frag} {g:TG} {tb:TS} {D:Ends} {σ:St} {H:Hp}
end
section
variable {K:PySem.W.Frag} {g:TG} {tb:TS} {D:Ends} {σ:St} {H:Hp} {ta:TA}
end
section
variable {X:Cx} {K:PySem.W.Frag}
end
def Pa (h:Heap) (e:Addr) (cls:Value) (dx:Option Addr) (T L:Addr):Prop:=
 ∃oe vs,h.get? e=some oe∧oe.cls=cls∧oe.dict=dx∧oe.data = .fields vs∧1<vs.size∧vs[1]?=some (.ref T)∧T≠e∧∃oT ts,h.get? T=some oT∧oT.data = .fields ts∧ts[3]?=some (rawInt L)
theorem Pa.kP {h:Heap} {e:Addr} {cls:Value} {dx:Option Addr} {T L:Addr} (x:Pa h e cls dx T L):kP e cls dx h:=by
 obtain ⟨o,ws,e1,e2,e3,e4,_⟩:=x
 exact ⟨o,ws,e1,e2,e3,e4⟩
section
variable {M:Model} {A:Around} {E:Value→Shared→Prop} {s:Shared}
theorem Fb {base:Heap} {env:Env} {outer:List Env} {L e:Addr} {oe:Obj} {vs:Array Value} {top:Value} {had:Bool} {Q:Unit→Shared→Prop}
  (hfr:A.frames=some (env::outer)) (hl:s.heap.FunFrames base (env::outer)) (hf:env.frame=some L)
  (he:s.heap.get? e=some oe) (hd:oe.data = .fields vs) (hsz:1<vs.size)
  (h: ∀h',Pa h' e oe.cls oe.dict s.heap.objs.size L→O9 ((env::outer).filterMap (·.frame)) e none s.heap h'→Q () {s with heap:=h'}):
  wpAny M A (do let a←frameOf env;let pl←entryPlaceOf L had;let b←EntryCells.newEntry top a .none (rawInt L) .none pl;setField (.ref e) 1 b) Q E s:=by
 have out:e ∉ (env::outer).filterMap (·.frame):=fun hm=>by
  obtain ⟨_,o',ho',no⟩:=hl.mem hm
  cases he.symm.trans ho'
  exact no vs hd
 refine wpAny_bind (wpAny_frameOf_fun hfr hl hf fun k ks=>wpAny_bind (wpAny_entryPlaceOf fun ps hps=>?_))
 unfold EntryCells.newEntry newFields
 refine wpAny_bind (wpAny_newObj_type ?_ (hps.sizeOk5 _ _ _ _ _))
 have ke:k.get? e=some oe:=(ks.2.1 e out).trans he
 have far:k.objs.size≠e:=Nat.ne_of_gt (Heap.lt_size ke)
 have esz:k.objs.size=s.heap.objs.size:=ks.1
 have de:=Obj.data_mapFields hd (·.setIfInBounds 1 (Value.ref k.objs.size))
 have e1:=Heap.get?_push_of_some (h:=k) (Fy top L ps) ke
 have e2:=Heap.get?_update_self (Obj.mapFields (·.setIfInBounds 1 (Value.ref k.objs.size))) e1 (Obj.isFreed_of_fields de)
 have r2:=(Heap.get?_update_other (k.push (Fy top L ps)) (Obj.mapFields (·.setIfInBounds 1 (Value.ref k.objs.size))) (Ne.symm far)).trans (Heap.get?_push_size k rfl)
 refine wpAny_setField e1 hd hsz (h _ ?_ ?_)
 ·
  rw [←esz]
  exact ⟨_,_,e2,Obj.cls_mapFields _ _,qe _ _,de,by simp [hsz],by simp [hsz],far,_,_,r2,rfl,by simp⟩
 ·have keep: ∀b o,b≠e→k.get? b=some o→((k.push (Fy top L ps)).update e (Obj.mapFields (·.setIfInBounds 1 (Value.ref k.objs.size)))).get? b=some o:=fun b o ne hb=>by
   rw [Heap.get?_update_other _ _ (Ne.symm ne)]
   exact Heap.get?_push_of_some _ hb
  refine ⟨fun b o hS ne _ hb=>keep b o ne ((ks.2.1 b hS).trans hb),fun b o hS hb=>?_,fun b o hb=>?_⟩
  ·
   obtain ⟨sl,q⟩:=ks.2.2 b o hb
   exact ⟨sl,keep b _ (fun z=>out (z▸hS)) q⟩
  ·
   by_cases z:b=e
   ·
    subst z
    exact ⟨_,e2⟩
   ·
    obtain ⟨sl,q⟩:=ks.2.2 b o hb
    exact ⟨_,keep b _ z q⟩
theorem Qn {base:Heap} {env:Env} {outer:List Env} {L e:Addr} {cls:Value} {dx tb:Option Addr} {Q:Unit→Shared→Prop}
  (hfr:A.frames=some (env::outer)) (hl:s.heap.FunFrames base (env::outer)) (hf:env.frame=some L) (hx:GP s.heap e cls dx tb)
  (h: ∀h',Pa h' e cls dx s.heap.objs.size L→O9 ((env::outer).filterMap (·.frame)) e tb s.heap h'→Q () {s with heap:=h'}):wpAny M A (noteFrame (.ref e) env) Q E s:=by
 obtain ⟨oe,vs,he,rfl,rfl,hd,hsz,ht⟩:=hx
 unfold noteFrame
 simp only [hf]
 cases tb with
 |none=>
  refine wpAny_bind (wpAny_field he hd ht ?_)
  rw [if_neg (by decide)]
  exact Fb hfr hl hf he hd hsz h
 |some T=>
  obtain ⟨h1,ne,oT,ts,hT,dT,h3⟩:=ht
  have apart: ∀b o,s.heap.get? b=some o→(∀ws,o.data≠ .fields ws)→b≠T:=fun b o hb no z=>by
   subst z
   cases hb.symm.trans hT
   exact no ts dT
  have out:T ∉ (env::outer).filterMap (·.frame):=fun hm=>by
   obtain ⟨_,o',ho',no⟩:=hl.mem hm
   exact apart T o' ho' no rfl
  refine wpAny_bind (wpAny_field he hd h1 ?_)
  rw [if_pos (by simp)]
  refine wpAny_bind (wpAny_field hT dT h3 ?_)
  rw [if_neg (by simp [rawInt])]
  refine wpAny_bind (wpAny_setField hT dT (Array.getElem?_eq_some_iff.mp h3).1 ?_)
  have oth: ∀b,b≠T→(s.heap.update T (Obj.mapFields (·.setIfInBounds 3 Value.none))).get? b=s.heap.get? b:=fun b z=>Heap.get?_update_other _ _ (Ne.symm z)
  have self:=Heap.get?_update_self (Obj.mapFields (·.setIfInBounds 3 Value.none)) hT (Obj.isFreed_of_fields (Obj.data_mapFields dT _))
  have fr:=hl.of_keeps (h':=s.heap.update T (Obj.mapFields (·.setIfInBounds 3 Value.none))) fun b o hb no=>⟨o,(oth b (apart b o hb no)).trans hb,rfl⟩
  refine Fb (oe:=oe) (vs:=vs) hfr fr hf ((oth e (Ne.symm ne)).trans he) hd hsz fun h' x k=>?_
  have sz:(s.heap.update T (Obj.mapFields (·.setIfInBounds 3 Value.none))).objs.size=s.heap.objs.size:=Heap.size_update ..
  change Pa h' e oe.cls oe.dict (s.heap.update T (Obj.mapFields (·.setIfInBounds 3 Value.none))).objs.size L at x
  rw [sz] at x
  refine h h' x ⟨fun b o hS z zT hb=>k.keep b o hS z (fun _ q=>by cases q) ((oth b (zT T rfl)).trans hb),fun b o hS hb=>k.slot b o hS ((oth b (fun q=>out (q▸hS))).trans hb),fun b o hb=>?_⟩
  by_cases q:b=T
  ·exact q▸k.there _ _ self
  ·exact k.there b o ((oth b q).trans hb)
theorem yk {env:Env} {L e T:Addr} {cls:Value} {dx:Option Addr} {Q:Unit→Shared→Prop} (hf:env.frame=some L) (hx:Pa s.heap e cls dx T L) (h:Q () s):wpAny M A (noteFrame (.ref e) env) Q E s:=by
 obtain ⟨oe,vs,he,_,_,hd,hsz,h1,ne,oT,ts,hT,dT,h3⟩:=hx
 unfold noteFrame
 simp only [hf]
 refine wpAny_bind (wpAny_field he hd h1 ?_)
 rw [if_pos (by simp)]
 refine wpAny_bind (wpAny_field hT dT h3 ?_)
 rw [if_pos (by simp)]
 exact wpAny_pure h
theorem JE {env:Env} {L e T:Addr} {cls:Value} {dx:Option Addr} (hf:env.frame=some L) (hx:Pa s.heap e cls dx T L) (h:E (.ref e) s):cameBackBy M A env E (.ref e) s:=by
 obtain ⟨oe,vs,he,_,_,hd,hsz,h1,ne,oT,ts,hT,dT,h3⟩:=hx
 unfold cameBackBy
 refine wpAny_bind (wpAny_field he hd h1 ?_)
 rw [if_neg (by simp)]
 unfold setFlight
 refine wpAny_bind (wpAny_field he hd h1 ?_)
 rw [if_pos (by simp),hf]
 refine wpAny_setField hT dT (Array.getElem?_eq_some_iff.mp h3).1 ?_
 rw [pY hT]
 ·exact h
 ·
  obtain ⟨c,d,dt,sl⟩:=oT
  obtain rfl:dt = .fields ts:=dT
  show Obj.mk c d (.fields (ts.setIfInBounds 3 (rawInt L))) sl=_
  congr 1
  congr 1
  obtain ⟨l3,e3⟩:=Array.getElem?_eq_some_iff.mp h3
  apply Array.ext (by simp)
  intro j h1 h2
  rw [Array.getElem_setIfInBounds]
  split
  ·rename_i z;subst z;exact e3.symm
  ·rfl
end
section
variable {X:Cx} {pins:List (Addr×Obj)} {σ:St} {H:Hp} {s:Shared} {h':Heap} {ea:Addr} {cls:Value} {dx tb:Option Addr} {E:XK}
theorem Es.stay (F:Es X pins σ H s ea cls dx tb) (hk:O9 (frs X.stack) ea tb s.heap h') (hx':kP ea cls dx h'):Inv X pins σ H {s with heap:=h'}:=by
 obtain ⟨oe,vs,he,hc,hd,hdata,hsz,hT⟩:=F.ex
 have I1:=F.inv.track (φ:=CP ea) F.nH F.n0 (fun p hp=>(F.apart p hp).1) ⟨oe,vs,he,hdata⟩ (yU ⟨oe,he⟩)
 have key:Inv X pins σ (upd H ea (.ext (kP ea cls dx))) {s with heap:=h'}:=by
  cases tb with
  |none=>
   have I2:=I1.left (T:=none) (fun t z=>by cases z) aa hk hx'
   have e:upd (upd H ea (.ext (CP ea))) ea (.ext (kP ea cls dx))=upd H ea (.ext (kP ea cls dx)):=by
    funext b;unfold upd;split<;>rfl
   rw [e] at I2
   exact I2
  |some T=>
   obtain ⟨h1,ne,oT,ts,hT,dT,h3⟩:=hT
   obtain ⟨t0,tH⟩:=F.tbs T rfl
   have I2:=I1.track (φ:=CP T) (by rw [ak ne];exact tH) t0 (fun p hp=>(F.apart p hp).2 T rfl) ⟨oT,ts,hT,dT⟩ (yU ⟨oT,hT⟩)
   have I3:=I2.left (T:=some T) (fun t z=>by cases z;exact aa) (by rw [ak (Ne.symm ne)];exact aa) hk hx'
   have I4:=I3.drop (e:=T) (φ:=CP T) (by rw [ak ne];exact aa)
   have e:j5 (upd (upd (upd H ea (.ext (CP ea))) T (.ext (CP T))) ea (.ext (kP ea cls dx))) T=upd H ea (.ext (kP ea cls dx)):=by
    funext b
    unfold j5 upd
    by_cases z:b=T
    ·subst z;simp [ne,tH]
    ·by_cases z2:b=ea<;>simp [z,z2,Ne.symm ne]
   rw [e] at I4
   exact I4
 have k2:=key.drop (e:=ea) (φ:=kP ea cls dx) aa
 rw [GF F.nH] at k2
 exact k2
structure aa6 (X:Cx) (pins:List (Addr×Obj)) (σ:St) (H:Hp) (s:Shared) (ea:Addr) (cls:Value) (dx:Option Addr) (T L:Addr):Prop where
 inv:Inv X pins σ H s
 ex:Pa s.heap ea cls dx T L
 n0:X.s₀.heap.get? ea=none
 nH:H ea=none
 t0:X.s₀.heap.get? T=none
 tH:H T=none
 apart: ∀p∈X.pn++pins,p.1≠ea∧p.1≠T
def fxe (X:Cx) (E:XK):Value→Shared→Prop:=fun e s=> ∃ea cls dx H,e = .ref ea∧((∃pins σ tb,Es X pins σ H s ea cls dx tb)∨∃pins σ T L,X.env.frame=some L∧aa6 X pins σ H s ea cls dx T L)∧E cls dx H
noncomputable abbrev Cx.fly (X:Cx) (E:XK):Cx:=X.wish (fxe X E)
theorem Es.unwish {E':Value→Shared→Prop} (F:Es (X.wish E') pins σ H s ea cls dx tb):Es X pins σ H s ea cls dx tb:=⟨F.inv.unwish,F.ex,F.n0,F.nH,F.tbs,F.apart⟩
theorem G9:Rz (X.fly E) E:=fun pins σ H s ea cls dx tb F hE=>⟨ea,cls,dx,H,rfl,.inl ⟨pins,σ,tb,F.unwish⟩,hE⟩
theorem yh {outer:List Env} {L:Addr} (hst:X.stack=X.env::outer) (hf:X.env.frame=some L):PassesOwn (model X.prog X.w) X.A X.env (fxe X E):=by
 rintro e s ⟨ea,cls,dx,H,rfl,F|F,hE⟩
 ·
  obtain ⟨pins,σ,tb,F⟩:=F
  have I:=F.inv
  have fr:=I.ok.frames
  have st:=I.stack
  rw [hst] at fr st
  refine Qn (base:=X.base) fr st hf F.ex fun h' hx hk=>JE hf hx ?_
  refine ⟨ea,cls,dx,H,rfl,.inr ⟨pins,σ,_,L,hf,⟨F.stay (by rw [hst];exact hk) hx.kP,hx,F.n0,F.nH,Heap.get?_none_of_le I.sz,I.hok.fresh (Nat.le_refl _),fun p hp=>⟨(F.apart p hp).1,?_⟩⟩⟩,hE⟩
  exact Nat.ne_of_lt (Heap.lt_size (I.pin p hp).1)
 ·
  obtain ⟨pins,σ,T,L',hf',F⟩:=F
  rw [hf] at hf'
  cases hf'
  exact yk hf F.ex (JE hf F.ex ⟨ea,cls,dx,H,rfl,.inr ⟨pins,σ,T,L,hf,F⟩,hE⟩)
def RzM (X:Cx) (E:XK):Prop:= ∀pins σ H s ea cls dx T L,X.env.frame=some L→aa6 X pins σ H s ea cls dx T L→E cls dx H→X.xe (.ref ea) s
theorem PS.fly {st:Stmt} {ts:TS} (hz:Rz X E) (hm:RzM X E) (h:PS (X.fly E) st ts):PS X st ts:=fun pins s σ H D I hw=>
 wpAny_mono (h pins s σ H D (I.wish _) hw) (fun _ _ q=>q.unwish) fun e s' z=>by
  obtain ⟨ea,cls,dx,H',rfl,F|F,hE⟩:=z
  ·
   obtain ⟨pins,σ,tb,F⟩:=F
   exact hz _ _ _ _ _ _ _ _ F hE
  ·
   obtain ⟨pins,σ,T,L,hf,F⟩:=F
   exact hm _ _ _ _ _ _ _ _ _ hf F hE
end
section
variable {P:Program} {w:World} {K:PySem.W.Frag} {mg:Str→Option Value} {base:Heap} {N:List Str} {qual:Str} {scope:Scope} {f:Addr} {cd:Value} {A:Around} {outer:List Env} {s:Shared} {H:Hp} {E:XK}
theorem G_:RzM (vL (fA P w) P w K mg base N qual scope f cd A outer s H E) E:=by
 intro pins σ H1 s1 ea cls dx T L hfL F hE
 have I:=F.inv
 obtain rfl:s.heap.objs.size=L:=Option.some.inj hfL
 show wpAny (model P w) (A.deeper (envOfC qual scope s.heap.objs.size f cd)) (leaving (envOfC qual scope s.heap.objs.size f cd) (.ref ea)) _ _ s1
 have st:=I.stack
 have hfree: ∀b∈frs (envOfC qual scope s.heap.objs.size f cd::outer),H1 b=none:=I.sN
 refine wpAny_bind (yk (L:=s.heap.objs.size) rfl F.ex ?_)
 obtain ⟨oe,vs,he,hc,hdx,hd,hsz,h1,ne,oT,ts,hT,dT,h3⟩:=F.ex
 have l3:=(Array.getElem?_eq_some_iff.mp h3).1
 have apart: ∀b o,s1.heap.get? b=some o→(∀ws,o.data≠ .fields ws)→b≠T:=fun b o hb no z=>by
  subst z
  cases hb.symm.trans hT
  exact no ts dT
 unfold setFlight
 refine wpAny_bind (wpAny_field he hd h1 ?_)
 rw [if_pos (by simp)]
 refine wpAny_setField hT dT l3 ?_
 have oth: ∀b,b≠T→(s1.heap.update T (Obj.mapFields (·.setIfInBounds 3 Value.none))).get? b=s1.heap.get? b:=fun b z=>Heap.get?_update_other _ _ (Ne.symm z)
 have self:=Heap.get?_update_self (Obj.mapFields (·.setIfInBounds 3 Value.none)) hT (Obj.isFreed_of_fields (Obj.data_mapFields dT _))
 change fA P w outer H s E (.ref ea) {s1 with heap:=s1.heap.update T (Obj.mapFields (·.setIfInBounds 3 Value.none))}
 generalize s1.heap.update T (Obj.mapFields (·.setIfInBounds 3 Value.none))=h' at*
 have hx:GP h' ea cls dx (some T):=⟨oe,vs,(oth ea (Ne.symm ne)).trans he,hc,hdx,hd,hsz,h1,ne,_,_,self,Obj.data_mapFields dT _,by simp [l3]⟩
 have hne: ∀b o,s.heap.get? b=some o→b≠T:=fun b o e z=>by
  have h1:s.heap.get? T=none:=F.t0
  rw [z,h1] at e;cases e
 have B:Un (frs outer) [] H H1 s.heap s1.heap:=I.base
 refine ⟨ea,cls,dx,T,H1,rfl,I.os,I.bare,⟨fun b o q n hb hx=>?_,fun b o q n hb hx=>?_,B.free,fun b o q hx=>?_,B.tups,B.frzs,B.tbls⟩,fun b o q=>?_,hx,⟨F.n0,F.t0,F.nH,F.tH⟩,hE⟩
 ·exact (oth b (hne b o q)).trans (B.keep b o q n hb hx)
 ·
  obtain ⟨sl,e⟩:=B.slot b o q n hb hx
  exact ⟨sl,(oth b (hne b o q)).trans e⟩
 ·
  obtain ⟨o',e⟩:=B.there b o q hx
  exact ⟨o',(oth b (hne b o q)).trans e⟩
 ·
  have some_ne: ∀c u,H1 c=some u→c≠T:=fun c u e z=>by rw [z,F.tH] at e;cases e
  refine (I.hok b o q).stay (fun c u hc e=>?_) (fun c e=>e) (fun c xs e=>e)
  rcases hc with z|z
  ·
   subst z
   exact (oth _ (some_ne _ _ q)).trans e
  ·exact (oth _ (some_ne _ _ z)).trans e
end
end L2
namespace FrameM
open PySem L2 Com
noncomputable def AW:Str:=" !\"#$&'()*+,-./0123456789:;<=>?@ABCDEFGHIJKLMNOPQRSTUVWXYZ[\\]^_`abcdefghijklmnopqrstuvwxyz{|}~"
noncomputable def JQ (x:V):Bool:=match x with
 | .str i=>!(Builtin.Str.occurrences AW i 0 AW.length 1).isEmpty
 |_=>false
noncomputable def bK (v l h:Int):Bool:=decide (l≤v)&&decide (v≤h)
noncomputable def sgl:List Nat:=AW.cps.toList
theorem EC:sgl.length=94:=by decide+kernel
theorem dropx {H H1:Hp} {e d C:Addr} {o:HO} {f:Str} {v:V} (S:aW H H1) (he:H1 e=none) (hd:upd H1 e o d=none):aW H (j5 (upd (upd (upd H1 e o) d (.xd [(f,v)])) e (.ext (y9 e C (some d)))) e)∧j5 (upd (upd (upd H1 e o) d (.xd [(f,v)])) e (.ext (y9 e C (some d)))) e d=some (.xd [(f,v)]):=by
 have nd:d≠e:=fun z=>by rw [z,aa] at hd;cases hd
 refine ⟨fun b u hb=>?_,?_⟩
 ·
  have h1:=S b u hb
  have nb:b≠e:=av h1 he
  rw [dZ nb,ak nb,ak (fun z=>?_),ak nb];exact h1
  rw [z] at h1
  rw [ak nd] at hd
  rw [h1] at hd;cases hd
 ·rw [dZ nd,ak nd,aa]
end FrameM
namespace L2
open PySem PySem.Spec PyProof.Rows
def t7 (K:PySem.W.Frag) (C:Addr):Prop:=PySem.W.findIn K (.ref C) "__init__" = some (some (.builtin "object.__init__"))
theorem Ia {K:PySem.W.Frag} {C:Addr} (h:PySem.W.findIn K (.ref C) "__init__" = some (some (.builtin "object.__init__"))):t7 K C:=h
def RY (C:Addr):TE:=fun _ H Q=> ∀x dx,H x=none→H dx=none→dx≠x→Q (.ref x) (upd (upd H dx (.own x)) x (.ins C dx []))
section
variable {X:Cx} {CX:pz} {C:Addr} {x m:Str} {p pos apos:Pos} {o:Expr} {ta:TE} {k n:Nat} {sp:Sp} {E:XK}
theorem Qe (c:cE X.K X.mg x C) (ni:t7 X.K C) (hg:Gl X x) (hdb:(x == ("__debug__" : Str))=false:=by decide):PE X (.Call (.Name x p) [] [] pos) (RY C):=by
 intro pins s σ H Q I h
 refine wpAny_Call_Name_kw (lq I hg c.JP ?_ hdb)
 have hq:=h (s.heap.objs.size+1) s.heap.objs.size (I.hok.fresh (Nat.le_succ _)) (I.hok.fresh (Nat.le_refl _)) (Nat.ne_of_lt (Nat.lt_succ_self _))
 have I2:=Inv.made (C:=C) I
 refine PySem.W.callWith_K0 (first:=[]) I.l_ c.kp (wpAny_call (Gp I.l_ c.mks ni (fun self=>PySem.W.Looks.of_pure (PySem.W.oi_bind self)) ?_))
 have Y:=PySem.W.makes_of (M:=model X.prog X.w) I.l_ c.mks
 have hx:((s.heap.push PySem.W.emptyDict).push (PySem.W.instObj C s.heap.objs.size)).get? (s.heap.objs.size+1)=some (PySem.W.instObj C s.heap.objs.size):=by heap_get
 have t1:PySem.W.Looks (model X.prog X.w) ((s.heap.push PySem.W.emptyDict).push (PySem.W.instObj C s.heap.objs.size)) (typeOf (.ref (s.heap.objs.size+1))) (.ref C):=(PySem.W.Looks.ld hx).andThen .now
 have t2:PySem.W.Looks (model X.prog X.w) ((s.heap.push PySem.W.emptyDict).push (PySem.W.instObj C s.heap.objs.size)) (isInstance (.ref (s.heap.objs.size+1)) (.type "object")) true:=t1.andThen (Y.top.keeps fun b o e=>Heap.get?_push_of_some _ (Heap.get?_push_of_some _ e))
 refine codeAny_call_builtin PySem.W.oi_plain PySem.W.entry_oi (@PySem.W.check_slot (model X.prog X.w) _ _ _ "object.__init__" "object" "__init__" (.ref (s.heap.objs.size+1)) [] [] _ PySem.W.oi_kind PySem.W.oi_split t2 (PySem.W.oi_args (.ref (s.heap.objs.size+1))) ?_)
 rw [PySem.W.oi_run]
 exact wpAny_pure (And.intro rfl ⟨.ref _,_,I2,rfl,hq⟩)
def RK (P:Program) (w:World) (K:PySem.W.Frag) (mg:Str→Option Value) (base:Heap) (CX:pz) (m:Str) (n:Nat) (sp:Sp):Prop:= ∀x H Q E,sp [x] H Q E→
 ∃a C dx fs k ps sp',x = .ref a∧H a=some (.ins C dx fs)∧fs.lookup m=none∧k≤n∧Pb K C∧cC P w K mg base CX C m k ps sp'∧sp' [.ref a] H Q E
def Po (sp:Sp) (E:XK) (ta:TE):TE:=fun σ H Q=>ta σ H fun x H1=>sp [x] H1 Q E
theorem KO {pl:Sem Bool} (he:PE X o ta) (G:RK X.prog X.w X.K X.mg X.base CX m k sp) (hr:cz n X.A) (hk:k≤n) (hp:Passes CX X E)
  (
   ht:eval (.Call (.Attribute o m apos) [] [] pos) X.env=(do
   let ov←eval o X.env
   standAt apos.atName
   let (f,first)←holding [ov] (getMethod ov m pl)
   callWith pos f first (backTo pos (starEach [] X.env)) (backToKw pos (keywordEach [] X.env)))):
  PE X (.Call (.Attribute o m apos) [] [] pos) (Po sp E ta):=by
 intro pins s σ H Q I h
 refine PySem.W.methodCall_KW (pl:=pl) (thn (he pins s σ H _ I h) fun u s1 ⟨x,H1,I1,rx,q⟩=>?_) ht
 obtain ⟨a,C,dx,fs,k',ps,sp',rfl,ea,l,hk',c,⟨f,fd,F,hm,b⟩,q⟩:=G _ _ _ _ q
 obtain rfl:u=Value.ref a:=rx
 refine r6 I1 ea c hm l ?_
 exact PySem.W.callWith_K0 (first:=[.ref a]) I1.l_ hm.kp (A9 (us:=[.ref a]) (vs:=[.ref a]) F (hr.mono (Nat.le_trans hk' hk)) b .nil hp I1 (.cons rfl .nil) q)
theorem Qc [Quiet CX] {pl:Sem Bool} (he:PE X o ta) (G:RK X.prog X.w X.K X.mg X.base CX m k sp) (hr:cz n X.A) (hk:k≤n)
  (
   ht:eval (.Call (.Attribute o m apos) [] [] pos) X.env=(do
   let ov←eval o X.env
   standAt apos.atName
   let (f,first)←holding [ov] (getMethod ov m pl)
   callWith pos f first (backTo pos (starEach [] X.env)) (backToKw pos (keywordEach [] X.env))):=by rfl):
  PE X (.Call (.Attribute o m apos) [] [] pos) (Po sp E0 ta):=KO he G hr hk (Quiet.pass X) ht
end
structure RM (K:PySem.W.Frag) (D:Addr):Prop where
 hg:PySem.W.plainGet K D "__class__" = true
 hd:PySem.W.hasDictIn K D=true
 ha:PySem.W.findIn K (.ref D) "__class__" = some (some (.builtin "object.__class__"))
 hn:PySem.W.specialIn K (.builtin "object.__class__") "__get__" = some (some (.builtin "getset_descriptor.__get__"))
 htk:PySem.W.takesIn K (.builtin "object.__class__")=some true
 hm:PySem.W.mroIn K D (.type "object")=some true
theorem aa9 {K:PySem.W.Frag} {D:Addr} (a:PySem.W.plainGet K D "__class__" = true) (b:PySem.W.hasDictIn K D=true) (c:PySem.W.findIn K (.ref D) "__class__" = some (some (.builtin "object.__class__")))
 (d:PySem.W.specialIn K (.builtin "object.__class__") "__get__" = some (some (.builtin "getset_descriptor.__get__"))) (e:PySem.W.takesIn K (.builtin "object.__class__")=some true) (f:PySem.W.mroIn K D (.type "object")=some true):RM K D:=⟨a,b,c,d,e,f⟩
def Sm (K:PySem.W.Frag):List V→Hp→VK→Prop:=fun xs H Q=>match xs with
 | [.ref p,.ref C]=> ∃D dx fs,H p=some (.ins D dx fs)∧RM K D∧BD (PySem.W.kitOne K (.ref D) (.ref C)) fun b=>Q (.bl b) H
 |_=>False
theorem F0 {K:PySem.W.Frag} {p C:Addr} {H:Hp} {Q:VK}:Sm K [.ref p,.ref C] H Q= ∃D dx fs,H p=some (.ins D dx fs)∧RM K D∧BD (PySem.W.kitOne K (.ref D) (.ref C)) fun b=>Q (.bl b) H:=rfl
section
variable {prog:Program} {w:World} {A:Around} {s:Shared} {K:PySem.W.Frag} {x C R dx:Addr} {cd:ClassData} {name:Str} {v:Value}
end
section
variable {X:Cx} {pins:List (Addr×Obj)} {σ:St} {H:Hp} {s:Shared} {h':Heap} {dx:Addr}
end
def PD (C:Addr) (ta tv:TE) (f:Str):TS:=fun D σ H=>tv σ H fun y H1=>ta σ H1 fun x H2=> ∃e,x = .ref e∧∃dx fs,H2 e=some (.ext (y9 e C (some dx)))∧H2 dx=some (.xd fs)∧fs.lookup f=none∧fs.length<1000∧D.nx σ (upd H2 dx (.xd (fs++ [(f,y)])))
section
variable {X:Cx} {E:XK}
end
section
variable {X:Cx} {a b:Expr} {ta tb:TE} {op:Operator} {r:R2} {pos:Pos}
theorem Cz (ho:my X (binaryOp op) r) (ha:QE X a ta) (hb:QE X b tb):QE X (.BinOp a op b pos) (RN r ta tb):=⟨aN ho ha.h hb.h⟩
end
def tHn (K:PySem.W.Frag) (C:Addr) (th:TS) (tr:TH):TH:=fun D σ cls dx H=>D3 (isx K cls C) (∀ea,H ea=none→th D σ (upd H ea (.ext (kP ea cls dx)))) (tr D σ cls dx H)
section
variable {X:Cx}
end
def RX (σ0:St) (sp:Sp) (E:XK) (ta:TE):TE:=fun σ H Q=>σ=σ0∧ta σ H fun x H1=>sp [x] H1 Q E
section
variable {X:Cx} {CX:pz} {m:Str} {pos apos:Pos} {o:Expr} {ta:TE} {k n:Nat} {sp:Sp} {E:XK} {σ0:St}
end
section
variable {X:Cx} {CX:pz} {C:Addr} {m x:Str} {pos apos:Pos} {o:Expr} {ta:TE} {k n:Nat} {ps:List Str} {sp:Sp} {E:XK} {σ0:St}
end
section
variable {prog:Program} {w:World} {A:Around} {R:Result→Shared→Prop} {I:Addr} {fp wr:List Addr} {n:Nat} {P:Nat→Value→Prop} {St:Nat→Heap→Prop}
theorem xN:(toString "max" ++toString ".loop" : String) = "max.loop" :=by decide
theorem Ic (d:Value) (W:Walks prog w A.in1 I fp wr n P St) (bt:Nat→Nat→Bool) (hcmp:CmpOf prog w A.in1 .Gt P bt) (S:Addr) (hSf:S ∉ fp) (k:Nat):
  ∀(j:Nat) (s:Shared) (best:Value) (c:Nat),n=j+1+k→St (j+1) s.heap→P (argBest bt j) best→s.heap.get? S=some ⟨.type "list",none,.seq #[best,best] c,#[]⟩→
  (∀v h' tk,P (argBest bt (n - 1)) v→(∀b o,b ∉ wr→b≠S→s.heap.get? b=some o→h'.get? b=some o)→R (.ok (.ret v)) {s with heap:=h',toks:=tk})→
  codeAny (model prog w) A (.builtin "max.loop" ⟨[.ref I,.none,.ref S],[("default",d)]⟩) R s:=by
 have hSw:S ∉ wr:=fun h=>hSf (W.sub _ h)
 induction k with
 |zero=>
  intro j s best c hn hst hb hS hR
  subst hn
  refine codeAny_builtin F.entry_max_loop ?_
  rw [Around.under_plainId F.plain_max_loop _]
  refine wpAny_bind (m:=seqItems? (.ref S)) (wpAny_seqItems hS rfl ?_)
  refine wpAny_bind (wpAny_tryCatch (W.done s _ _ hst fun h' tk hk'=>?_))
  refine wpAny_bind (m:=updateSeq S fun _=>#[]) (wpAny_updateSeq (hk' S _ hSw hS) rfl (wpAny_bind (wpAny_letGo (wpAny_pure ?_))))
  exact hR best _ tk hb fun b o hbw hbS e=>(Heap.get?_update_other _ _ (Ne.symm hbS)).trans (hk' b o hbw e)
 |succ k ih=>
  intro j s best c hn hst hb hS hR
  refine codeAny_builtin F.entry_max_loop ?_
  rw [Around.under_plainId F.plain_max_loop _]
  refine wpAny_bind (m:=seqItems? (.ref S)) (wpAny_seqItems hS rfl ?_)
  refine wpAny_bind (wpAny_tryCatch (W.item (j+1) s _ _ (by omega) hst fun v h' tk hP hst' hk'=>?_))
  have hS':=hk' S _ hSw hS
  refine wpAny_bind (wpAny_pure ?_)
  refine wpAny_bind (wpAny_tryCatch (wpAny_holding (wpAny_bind (m:=richCompare .Gt v best) (hcmp (j+1) (argBest bt j) v best _ _ _ hP hb ?_))))
  refine wpAny_bind (wpAny_holding (wpAny_truthy_bool ?_))
  refine wpAny_bind (wpAny_letGo (wpAny_pure ?_))
  cases e:bt (j+1) (argBest bt j) with
  |true=>
   rw [if_pos rfl]
   refine wpAny_bind (wpAny_updateSeq hS' rfl (wpAny_bind (wpAny_letGo ?_)))
   rw [xN]
   refine wpAny_pure ⟨plainId_quiet F.plain_max_loop _,ih (j+1) _ v _ (by omega) (W.frame _ _ _ hst' fun b hbf o q=>?_) (by rw [argBest,e,if_pos rfl];exact hP) (Heap.get?_update_self _ hS' rfl) fun v' h2 tk2 hP' hk2=>?_⟩
   ·exact (Heap.get?_update_other _ _ (fun z:S=b=>hSf (by rw [z];exact hbf))).trans q
   ·exact hR v' h2 tk2 hP' fun b o hbw hbS q=>hk2 b o hbw hbS ((Heap.get?_update_other _ _ (Ne.symm hbS)).trans (hk' b o hbw q))
  |false=>
   rw [if_neg Bool.false_ne_true]
   refine wpAny_bind (wpAny_letGo ?_)
   rw [xN]
   refine wpAny_pure ⟨plainId_quiet F.plain_max_loop _,ih (j+1) _ best c (by omega) hst' (by rw [argBest,e,if_neg Bool.false_ne_true];exact hb) hS' fun v' h2 tk2 hP' hk2=>?_⟩
   exact hR v' h2 tk2 hP' fun b o hbw hbS q=>hk2 b o hbw hbS (hk' b o hbw q)
theorem Gk (d:Value) (W:Walks prog w A.in1 I fp wr n P St) (bt:Nat→Nat→Bool) (hcmp:CmpOf prog w A.in1 .Gt P bt) (S:Addr) (hSf:S ∉ fp) {s:Shared} {c:Nat} (hst:St 0 s.heap)
  (hS:s.heap.get? S=some ⟨.type "list",none,.seq #[] c,#[]⟩)
  (hR: ∀v h' tk,(n=0∧v=d∨0<n∧P (argBest bt (n - 1)) v)→(∀b o,b ∉ wr→b≠S→s.heap.get? b=some o→h'.get? b=some o)→R (.ok (.ret v)) {s with heap:=h',toks:=tk}):
  codeAny (model prog w) A (.builtin "max.loop" ⟨[.ref I,.none,.ref S],[("default",d)]⟩) R s:=by
 have hSw:S ∉ wr:=fun h=>hSf (W.sub _ h)
 refine codeAny_builtin F.entry_max_loop ?_
 rw [Around.under_plainId F.plain_max_loop _]
 refine wpAny_bind (m:=seqItems? (.ref S)) (wpAny_seqItems hS rfl ?_)
 by_cases hn:n=0
 ·
  subst hn
  refine wpAny_bind (wpAny_tryCatch (W.done s _ _ hst fun h' tk hk'=>?_))
  refine wpAny_bind (wpAny_rule (wpAny_pure ?_))
  exact hR d h' tk (.inl ⟨rfl,rfl⟩) fun b o hbw _ e=>hk' b o hbw e
 ·
  refine wpAny_bind (wpAny_tryCatch (W.item 0 s _ _ (by omega) hst fun v h' tk hP hst' hk'=>?_))
  have hS':=hk' S _ hSw hS
  refine wpAny_bind (wpAny_pure ?_)
  refine wpAny_bind (m:=updateSeq S fun _=>#[v,v]) (wpAny_updateSeq hS' rfl ?_)
  rw [xN]
  refine wpAny_pure ⟨plainId_quiet F.plain_max_loop _,Ic d W bt hcmp S hSf (n - 1) 0 _ v _ (by omega) (W.frame _ _ _ hst' fun b hbf o q=>?_) hP (Heap.get?_update_self _ hS' rfl) fun v' h2 tk2 hP' hk2=>?_⟩
  ·exact (Heap.get?_update_other _ _ (fun z:S=b=>hSf (by rw [z];exact hbf))).trans q
  ·exact hR v' h2 tk2 (.inr ⟨by omega,hP'⟩) fun b o hbw hbS q=>hk2 b o hbw hbS ((Heap.get?_update_other _ _ (Ne.symm hbS)).trans (hk' b o hbw q))
end
section
variable {prog:Program} {w:World} {A:Around} {E:Value→Shared→Prop} {s:Shared}
theorem Ig (a v:Value):argsOk "max" ⟨[a],[(Str.ofString "default",v)]⟩:=by unfold argsOk;kernel_rfl
theorem Ie {l:Addr} {xs:Array (Int×Tok)} {d:Value} {Q:Value→Shared→Prop} (hh:A.handled=none) (hl:s.heap.IsList l (intItems xs))
  (h: ∀v h' tk,(xs.size=0∧v=d∨0<xs.size∧(intItems xs)[argBest (fun i j=>decide (numAt xs i > numAt xs j)) (xs.size - 1)]?=some v)→(∀b o,s.heap.get? b=some o→h'.get? b=some o)→Q v {s with heap:=h',toks:=tk}):
  wpAny (model prog w) A (call (.builtin "max") [.ref l] [(Str.ofString "default",d)]) Q E s:=by
 refine kmb_tree F.kind_max F.plain_max F.entry_max (Ig _ _) ?_
 refine wpAny_bind (wpAny_of_eq (show Builtin.Builtins.bindParams "max" ["key","default"] 0 ⟨[],[(Str.ofString "default",d)]⟩=pure [none,some d] from rfl) ?_)
 refine wpAny_bind (wpAny_pure ?_)
 refine wpAny_bind (iter_intList hl fun s₂ e st hfp hlI=>?_)
 subst e
 refine wpAny_bind (wpAny_newObj_type ?_)
 rw [xN]
 have W:=Walks.list (prog:=prog) (w:=w) (A:=A.in1) hh _ l hlI (intItems xs)
 have hsz:(intItems xs).size=xs.size:=by simp [intItems]
 refine wpAny_pure ⟨plainId_quiet F.plain_max_loop _,Gk d W (fun i j=>decide (numAt xs i > numAt xs j)) (CmpOf.ints_gt (numAt xs) (fun _ _=>intItems_at)) _ (fun hm=>Nat.lt_irrefl _ (hfp _ hm)) (W.frame _ _ _ st fun b _ o q=>Heap.get?_push_of_some _ q) (Heap.get?_push_size _ rfl) fun v h' tk hP hk=>?_⟩
 rw [hsz] at hP
 refine h v h' tk hP (old_kept (l:=l) fun b o hb q=>?_)
 exact hk b o hb (Nat.ne_of_lt (Heap.lt_size q)) (Heap.get?_push_of_some _ q)
end
def EG (K:PySem.W.Frag):List V→List V→Hp→VK→Prop:=fun vs ds H Q=>match vs,ds with
 | [.ref p],[d]=> ∃ns:List Int,bU K H p (ns.map V.int)∧(ns= []→Q d H)∧(0<ns.length→∀M,M∈ns→(∀a,a∈ns→a≤M)→Q (.int M) H)
 |_,_=>False
def GY (K:PySem.W.Frag) (t td:TA):TE:=fun σ H Q=>t σ H fun vs H1=>td σ H1 fun ds H2=>EG K vs ds H2 Q
theorem An {K:PySem.W.Frag} {p:Addr} {d:V} {H:Hp} {Q:VK}:EG K [.ref p] [d] H Q= ∃ns:List Int,bU K H p (ns.map V.int)∧(ns= []→Q d H)∧(0<ns.length→∀M,M∈ns→(∀a,a∈ns→a≤M)→Q (.int M) H):=rfl
section
variable {X:Cx}
theorem KP {e d:Expr} {t:TA} {td:TE} {p kp pos:Pos} (K:PySem.W.Frag) (hK:X.K=K) (hc:X.calm=true) (hg:Gl X "max") (hm:X.mg "max" = none) (ha:PA X [e] t) (hd:PE X d td) (hs:isStar e=false:=by rfl):
  PE X (.Call (.Name "max" p) [e] [⟨some "default",d,kp⟩] pos) (GY K t (sL td AO)):=by
 subst hK
 intro pins s σ H Q I h
 refine wpAny_Call_Name_kw (uX I hg hm JI ?_)
 refine callWith_kw (thn (ha pos pins s σ H _ I h) fun us s1 ⟨vs,H1,I1,r1,q1⟩=>thn (KJ hd P7 pos pins s1 σ H1 _ I1 q1) fun ws s2 ⟨ds,H2,I2,r2,q2⟩=>?_) (by rw [bJ hs];rfl) (by rw [bJ hs];rfl)
 replace q2:EG X.K vs ds H2 Q:=q2
 unfold EG at q2
 split at q2
 ·
  rename_i p d _
  obtain ⟨ns,hS,k1,k2⟩:=q2
  obtain ⟨u,rfl,ru⟩:=vals1 r1
  cases ru
  obtain ⟨dv,rfl,rd⟩:=vals1 r2
  obtain ⟨its,r,pl,hz⟩:=I2.list hS
  have hi:=yx r
  have hl:=pl.isList
  obtain ⟨xs,e⟩:=hi.allInts.items
  have hns:ns=xs.toList.map (·.1):=by rw [←hi.numsOf,←nums_intItems,←e]
  have hsz:ns.length=xs.size:=by rw [hns,List.length_map,Array.length_toList]
  rw [e] at hl
  refine Ie (I2.ok.hd hc) hl fun v h' tk hv hk=>?_
  rcases hv with ⟨z,rfl⟩|⟨z,hv⟩
  ·exact ⟨d,H2,I2.kept (t':=tk) hk,rd,k1 (List.length_eq_zero_iff.mp (by omega))⟩
  ·
   obtain ⟨t,rfl⟩:=intItems_at hv
   obtain ⟨h1,h2⟩:=argBest_gt (numAt xs) (xs.size - 1)
   refine ⟨.int _,H2,I2.kept (t':=tk) hk,⟨t,rfl⟩,k2 (by omega) _ ?_ fun a ha=>?_⟩
   ·rw [hns,numAt_eq];exact getD_mem (by rw [List.length_map,Array.length_toList];omega)
   ·
    rw [hns] at ha
    obtain ⟨j,hj,rfl⟩:=mem_getD ha
    rw [List.length_map,Array.length_toList] at hj
    rw [←numAt_eq];exact h2 j (by omega)
 ·exact q2.elim
end
def Sl (K:PySem.W.Frag):List V→Hp→VK→Prop:=fun xs H Q=>match xs with
 | [.ref p,.ty "tuple"]=>(∃ys,iD K H p ys)∧Q (.bl true) H
 |xs=>vX K xs H Q
theorem FZ {K:PySem.W.Frag} {p:Addr} {H:Hp} {Q:VK}:Sl K [.ref p,.ty "tuple"] H Q=((∃ys,iD K H p ys)∧Q (.bl true) H):=rfl
noncomputable def anyS:List (Option Bool)→Option Bool
 | []=>some false
 |some true::_=>some true
 |some false::r=>anyS r
 |none::_=>none
section
variable {prog:Program} {w:World} {A:Around} {E:Value→Shared→Prop} {s:Shared} {K:PySem.W.Frag}
end
section
variable {X:Cx}
def tHt (K:PySem.W.Frag) (Cs:List Addr) (th:TS) (tr:TH):TH:=fun D σ cls dx H=> ∀t,H t=none→D3 (anyS (Cs.map (isx K cls))) (∀ea,upd H t (.tup (Cs.map V.ref)) ea=none→th D σ (upd (upd H t (.tup (Cs.map V.ref))) ea (.ext (kP ea cls dx)))) (tr D σ cls dx (upd H t (.tup (Cs.map V.ref))))
end
theorem RI {os:List (Option Bool)}:anyS (some true::os)=some true:=rfl
theorem RJ {os:List (Option Bool)}:anyS (some false::os)=anyS os:=rfl
theorem JM:anyS []=some false:=rfl
theorem HS {X:Cx} {x:Str} {C:Addr} {k n:Nat} {ps:List Str} {sp:Sp} {E:XK} {e:Expr} {es:List Expr} {t:TA} {p pos:Pos} (c:cE X.K X.mg x C) (G:cC X.prog X.w X.K X.mg X.base (fA X.prog X.w) C "__init__" k ps sp) (hr:cz n X.A) (hk:k+1≤n) (hg:Gl X x) (hz:Rz X E) (hex:X.ex= []) (ha:PA X (e::es) t)
  (hdb:(x == ("__debug__" : Str))=false:=by decide) (h:(e::es).any isStar=false:=by rfl):PE X (.Call (.Name x p) (e::es) [] pos) (Ey C sp [] E t):=by
 obtain ⟨f,fd,F,hm,b⟩:=G
 rw [List.any_cons,Bool.or_eq_false_iff] at h
 exact EM ⟨c.mks,hm.at_,hm.fn,c.kp⟩ F (hr.mono hk) hg c.JP b .nil (hz.passes hex) ha hdb (bJ h.1) (jS h.2)
def R_ (K:PySem.W.Frag):List V→Hp→VK→Prop:=fun xs H Q=>match xs with
 | [.ref p]=> ∃ns:List Int,iD K H p (ns.map V.int)∧Q (.int ns.sum) H
 |_=>False
def Sg (K:PySem.W.Frag):List V→Hp→VK→Prop:=fun xs H Q=>match xs with
 | [.ref p]=> ∃ns:List Int,iD K H p (ns.map V.int)∧0<ns.length∧∀M,M∈ns→(∀a,a∈ns→a≤M)→Q (.int M) H
 |_=>False
theorem FD {K:PySem.W.Frag} {p:Addr} {H:Hp} {Q:VK}:R_ K [.ref p] H Q=(∃ns:List Int,iD K H p (ns.map V.int)∧Q (.int ns.sum) H):=rfl
theorem FN {K:PySem.W.Frag} {p:Addr} {H:Hp} {Q:VK}:Sg K [.ref p] H Q= ∃ns:List Int,iD K H p (ns.map V.int)∧0<ns.length∧∀M,M∈ns→(∀a,a∈ns→a≤M)→Q (.int M) H:=rfl
end L2
namespace StM
section
variable {p K T t n:Nat}
end
section
variable {p K T n:Nat→Nat} {h:Nat→Nat→Nat} {i:Nat}
end
end StM
namespace K70
open PySem L2 Com FrameM
def aR (u:TS):TS:=u
theorem bT {X:Cx} {l:List Stmt} {u:TS} (h:y_ X l u):y_ X l (aR u):=h
theorem a7 {X:Cx} {l:List Stmt} {u:TS} (h:Fl X l u):Fl X l (aR u):=⟨h.h⟩
theorem CK {u:TS} {D:Ends} {σ:St} {H:Hp} (h: ∀D',D'=D→u D' σ H):u D σ H:=h D rfl
noncomputable def top (i:Nat):Stmt:=PySem.Challenge.pw_slowroad_k70_bad_wishes.main.body.getD i (.Pass ⟨0,0,0,0⟩)
abbrev j8 (ps:List Str) (x y:Str) (s:Stmt):Prop:= ∀(kV doc pm:Value) (an:Option Addr) (cdv ct:Value) (us:List Value),us.length=ps.length→bindArgs (PySem.W.fnOf x y (di s) (b7 s) (aA s) .none kV doc pm an cdv ct) ⟨us,[]⟩=pure (ps.zip us)
theorem OW {α:Type} {us:List α} (h:us.length=1): ∃a0,us= [a0]:=List.length_eq_one_iff.mp h
theorem OV {α:Type} {us:List α} (h:us.length=2): ∃a0 a1,us= [a0,a1]:=by
 obtain ⟨a,t,rfl⟩:=List.exists_cons_of_length_eq_add_one h
 obtain ⟨b0,rfl⟩:=OW (Nat.succ.inj h)
 exact ⟨a,b0,rfl⟩
theorem OU {α:Type} {us:List α} (h:us.length=3): ∃a0 a1 a2,us= [a0,a1,a2]:=by
 obtain ⟨a,t,rfl⟩:=List.exists_cons_of_length_eq_add_one h
 obtain ⟨b0,b1,rfl⟩:=OV (Nat.succ.inj h)
 exact ⟨a,b0,b1,rfl⟩
theorem OT {α:Type} {us:List α} (h:us.length=4): ∃a0 a1 a2 a3,us= [a0,a1,a2,a3]:=by
 obtain ⟨a,t,rfl⟩:=List.exists_cons_of_length_eq_add_one h
 obtain ⟨b0,b1,b2,rfl⟩:=OU (Nat.succ.inj h)
 exact ⟨a,b0,b1,b2,rfl⟩
theorem OS {α:Type} {us:List α} (h:us.length=5): ∃a0 a1 a2 a3 a4,us= [a0,a1,a2,a3,a4]:=by
 obtain ⟨a,t,rfl⟩:=List.exists_cons_of_length_eq_add_one h
 obtain ⟨b0,b1,b2,b3,rfl⟩:=OT (Nat.succ.inj h)
 exact ⟨a,b0,b1,b2,b3,rfl⟩
theorem Z0 {α:Type} {us:List α} (h:us.length=6): ∃a0 a1 a2 a3 a4 a5,us= [a0,a1,a2,a3,a4,a5]:=by
 obtain ⟨a,t,rfl⟩:=List.exists_cons_of_length_eq_add_one h
 obtain ⟨b0,b1,b2,b3,b4,rfl⟩:=OS (Nat.succ.inj h)
 exact ⟨a,b0,b1,b2,b3,b4,rfl⟩
set_option hygiene false in
local macro_rules | `(tactic| exists 2) => `(tactic| exact ⟨rfl,rfl,rfl,by decide +kernel,rfl,by decide +kernel,by decide +kernel⟩)
set_option hygiene false in
local macro_rules | `(tactic| exists 3) => `(tactic| (intro _ _ _ _ _ _ us hl; first | (obtain ⟨_,rfl⟩ := OW hl; rfl) | (obtain ⟨_,_,rfl⟩ := OV hl; rfl) | (obtain ⟨_,_,_,rfl⟩ := OU hl; rfl) | (obtain ⟨_,_,_,_,rfl⟩ := OT hl; rfl) | (obtain ⟨_,_,_,_,_,rfl⟩ := OS hl; rfl) | (obtain ⟨_,_,_,_,_,_,rfl⟩ := Z0 hl; rfl)))
noncomputable abbrev uN:Stmt:=top 2
theorem Dw:aU ["value","low","high"] ["value","low","high"] (aA uN):=by exists 2
theorem Em:j8 ["value","low","high"] "is_from" "is_from" uN:=by exists 3
noncomputable abbrev d_:Stmt:=inClass (top 8) 0
theorem qU:aU ["self","at"] ["self","at"] (aA d_):=by exists 2
theorem q0:j8 ["self","at"] "__init__" "BadRoad.__init__" d_:=by exists 3
noncomputable abbrev d8:Stmt:=inClass (top 10) 0
theorem qS:aU ["self","least"] ["self","least"] (aA d8):=by exists 2
theorem qY:j8 ["self","least"] "__init__" "NotWide.__init__" d8:=by exists 3
noncomputable abbrev d9:Stmt:=inClass (top 13) 0
theorem qT:aU ["self","at"] ["self","at"] (aA d9):=by exists 2
theorem qZ:j8 ["self","at"] "__init__" "BadWish.__init__" d9:=by exists 3
noncomputable abbrev iQ:Stmt:=inClass (top 45) 0
theorem sV:aU ["self","most"] ["self","most"] (aA iQ):=by exists 2
theorem tX:j8 ["self","most"] "__init__" "Meter.__init__" iQ:=by exists 3
noncomputable abbrev kz:Stmt:=inClass (top 51) 0
theorem uG:aU ["self","first","longest"] ["self","first","longest"] (aA kz):=by exists 2
theorem vN:j8 ["self","first","longest"] "__init__" "Ways.__init__" kz:=by exists 3
noncomputable abbrev fK:Stmt:=inClass (top 54) 0
theorem rH:aU ["self","ring","first","longest","most"] ["self","ring","first","longest","most"] (aA fK):=by exists 2
theorem sF:j8 ["self","ring","first","longest","most"] "__init__" "Sender.__init__" fK:=by exists 3
noncomputable abbrev mW:Stmt:=inClass (top 54) 2
theorem x_:aU ["self"] ["self"] (aA mW):=by exists 2
theorem y3:j8 ["self"] "many" "Sender.many" mW:=by exists 3
noncomputable abbrev lR:Stmt:=inClass (top 54) 3
theorem wF:aU ["self","place"] ["self","place"] (aA lR):=by exists 2
theorem xA:j8 ["self","place"] "thing" "Sender.thing" lR:=by exists 3
noncomputable abbrev pL:Stmt:=inClass (top 57) 0
theorem A5:aU ["self"] ["self"] (aA pL):=by exists 2
theorem BX:j8 ["self"] "name" "Shut.name" pL:=by exists 3
noncomputable abbrev lU:Stmt:=inClass (top 58) 0
theorem wI:aU ["self"] ["self"] (aA lU):=by exists 2
theorem xD:j8 ["self"] "name" "Calling.name" lU:=by exists 3
noncomputable abbrev pM:Stmt:=inClass (top 59) 0
theorem A6:aU ["self"] ["self"] (aA pM):=by exists 2
theorem BY:j8 ["self"] "name" "Open.name" pM:=by exists 3
noncomputable abbrev pN:Stmt:=inClass (top 60) 0
theorem A7:aU ["self"] ["self"] (aA pN):=by exists 2
theorem BZ:j8 ["self"] "name" "Left.name" pN:=by exists 3
noncomputable abbrev lS:Stmt:=inClass (top 61) 0
theorem wG:aU ["self"] ["self"] (aA lS):=by exists 2
theorem xB:j8 ["self"] "name" "Leaving.name" lS:=by exists 3
noncomputable abbrev lQ:Stmt:=inClass (top 62) 0
theorem wD:aU ["self"] ["self"] (aA lQ):=by exists 2
theorem xy:j8 ["self"] "name" "Waiting.name" lQ:=by exists 3
noncomputable abbrev lT:Stmt:=inClass (top 63) 0
theorem wH:aU ["self"] ["self"] (aA lT):=by exists 2
theorem xC:j8 ["self"] "name" "Closing.name" lT:=by exists 3
noncomputable abbrev iO:Stmt:=inClass (top 65) 0
theorem sT:aU ["self","ring","room"] ["self","ring","room"] (aA iO):=by exists 2
theorem tV:j8 ["self","ring","room"] "__init__" "Taker.__init__" iO:=by exists 3
noncomputable abbrev uM:Stmt:=top 70
theorem Dv:aU ["text"] ["text"] (aA uM):=by exists 2
theorem El:j8 ["text"] "is_text" "is_text" uM:=by exists 3
noncomputable abbrev kD:Stmt:=inClass (top 72) 0
theorem uJ:aU ["self","side","terms"] ["self","side","terms"] (aA kD):=by exists 2
theorem vR:j8 ["self","side","terms"] "__init__" "Hand.__init__" kD:=by exists 3
noncomputable abbrev pO:Stmt:=inClass (top 72) 1
theorem A8:aU ["self"] ["self"] (aA pO):=by exists 2
theorem B7:j8 ["self"] "name" "Hand.name" pO:=by exists 3
noncomputable abbrev oo:Stmt:=inClass (top 72) 12
theorem zv:aU ["self"] ["self"] (aA oo):=by exists 2
theorem z8:j8 ["self"] "quiet" "Hand.quiet" oo:=by exists 3
noncomputable abbrev ya:Stmt:=top 79
theorem Fx:aU ["deeds"] ["deeds"] (aA ya):=by exists 2
theorem GO:j8 ["deeds"] "copied" "copied" ya:=by exists 3
noncomputable abbrev uP:Stmt:=top 81
theorem Dy:aU ["copy","lag"] ["copy","lag"] (aA uP):=by exists 2
theorem Eo:j8 ["copy","lag"] "is_copy" "is_copy" uP:=by exists 3
noncomputable abbrev uO:Stmt:=top 82
theorem Dx:aU ["deed","lag"] ["deed","lag"] (aA uO):=by exists 2
theorem En:j8 ["deed","lag"] "is_deed" "is_deed" uO:=by exists 3
noncomputable abbrev n_:Stmt:=top 83
theorem mT:aU ["deeds","lag","at","deed"] ["deeds","lag"] (aA n_):=by exists 2
theorem zY:j8 ["deeds","lag"] "check_road" "check_road" n_:=by exists 3
noncomputable abbrev kC:Stmt:=inClass (top 84) 0
theorem uI:aU ["self","deeds","lag"] ["self","deeds","lag"] (aA kC):=by exists 2
theorem vQ:j8 ["self","deeds","lag"] "__init__" "Road.__init__" kC:=by exists 3
noncomputable abbrev iP:Stmt:=inClass (top 84) 3
theorem sU:aU ["self"] ["self"] (aA iP):=by exists 2
theorem tW:j8 ["self"] "under_way" "Road.under_way" iP:=by exists 3
noncomputable abbrev uL:Stmt:=top 90
theorem Du:aU ["wish"] ["wish"] (aA uL):=by exists 2
theorem Ek:j8 ["wish"] "is_wish" "is_wish" uL:=by exists 3
noncomputable abbrev rJ:Stmt:=top 91
theorem Cq:aU ["word","value"] ["word","value"] (aA rJ):=by exists 2
theorem C0:j8 ["word","value"] "is_value" "is_value" rJ:=by exists 3
noncomputable abbrev lN:Stmt:=top 92
theorem ky:aU ["wishes","at","wish"] ["wishes"] (aA lN):=by exists 2
theorem xt:j8 ["wishes"] "check_wishes" "check_wishes" lN:=by exists 3
noncomputable abbrev lM:Stmt:=top 93
theorem wB:aU ["wishes"] ["wishes"] (aA lM):=by exists 2
theorem xr:j8 ["wishes"] "last_turn_of" "last_turn_of" lM:=by exists 3
noncomputable abbrev uK:Stmt:=top 94
theorem Ds:aU ["row"] ["row"] (aA uK):=by exists 2
theorem Ej:j8 ["row"] "own_row" "own_row" uK:=by exists 3
noncomputable abbrev kB:Stmt:=inClass (top 95) 0
theorem uH:aU ["self","terms","roads","wishes"] ["self","terms","roads","wishes"] (aA kB):=by exists 2
theorem vP:j8 ["self","terms","roads","wishes"] "__init__" "Walk.__init__" kB:=by exists 3
noncomputable abbrev mV:Stmt:=inClass (top 95) 7
theorem pF:aU ["self","side","taker"] ["self","side"] (aA mV):=by exists 2
theorem y2:j8 ["self","side"] "unread" "Walk.unread" mV:=by exists 3
noncomputable abbrev om:Stmt:=inClass (top 95) 10
theorem zu:aU ["self"] ["self"] (aA om):=by exists 2
theorem z7:j8 ["self"] "quiet" "Walk.quiet" om:=by exists 3
noncomputable abbrev cR:Stmt:=inClass (top 95) 11
theorem iE:aU ["self","side","hand"] ["self","side"] (aA cR):=by exists 2
theorem pj:j8 ["self","side"] "side_is_quiet" "Walk.side_is_quiet" cR:=by exists 3
noncomputable abbrev pK:Stmt:=inClass (top 95) 13
theorem AZ:aU ["self"] ["self"] (aA pK):=by exists 2
theorem BW:j8 ["self"] "rows" "Walk.rows" pK:=by exists 3
noncomputable abbrev kA:Stmt:=inClass (top 95) 14
theorem nz:aU ["self","side","sender"] ["self","side"] (aA kA):=by exists 2
theorem vO:j8 ["self","side"] "given_in" "Walk.given_in" kA:=by exists 3
noncomputable abbrev iM:Stmt:=inClass (top 95) 15
theorem sS:aU ["self","side"] ["self","side"] (aA iM):=by exists 2
theorem tT:j8 ["self","side"] "given_out" "Walk.given_out" iM:=by exists 3
noncomputable abbrev Dz:Stmt:=top 97
theorem J6:aU ["room","lag"] ["room","lag"] (aA Dz):=by exists 2
theorem Lx:j8 ["room","lag"] "need" "need" Dz:=by exists 3
noncomputable abbrev pH:Stmt:=top 104
theorem AY:aU ["rooms"] ["rooms"] (aA pH):=by exists 2
theorem BS:j8 ["rooms"] "are_rooms" "are_rooms" pH:=by exists 3
noncomputable abbrev pG:Stmt:=top 105
theorem AX:aU ["first","longest"] ["first","longest"] (aA pG):=by exists 2
theorem BR:j8 ["first","longest"] "are_waits" "are_waits" pG:=by exists 3
noncomputable abbrev iN:Stmt:=inClass (top 106) 0
theorem mD:aU ["self","ring","rooms","lag","first","longest","least"] ["self","ring","rooms","lag","first","longest"] (aA iN):=by exists 2
theorem tU:j8 ["self","ring","rooms","lag","first","longest"] "__init__" "Terms.__init__" iN:=by exists 3
noncomputable abbrev lP:Stmt:=top 108
theorem wC:aU ["_law_script","_law_k"] ["_law_script","_law_k"] (aA lP):=by exists 2
theorem xv:j8 ["_law_script","_law_k"] "_law_cell_at" "_law_cell_at" lP:=by exists 3
noncomputable abbrev oi:Stmt:=top 109
theorem q9:aU ["_law_cell","_law_k","_law_number"] ["_law_cell","_law_k"] (aA oi):=by exists 2
theorem z5:j8 ["_law_cell","_law_k"] "_law_mixed" "_law_mixed" oi:=by exists 3
noncomputable abbrev pJ:Stmt:=top 110
theorem k_:aU ["_law_number","_law_size","_law_some","_law_step"] ["_law_number","_law_size"] (aA pJ):=by exists 2
theorem BV:j8 ["_law_number","_law_size"] "_law_text" "_law_text" pJ:=by exists 3
noncomputable abbrev pI:Stmt:=top 111
theorem k9:aU ["_law_cell","_law_number","_law_turn","_law_side"] ["_law_cell"] (aA pI):=by exists 2
theorem BU:j8 ["_law_cell"] "_law_wish" "_law_wish" pI:=by exists 3
noncomputable abbrev og:Stmt:=top 112
theorem bC:aU ["_law_wish_here","_law_cell","_law_turn","_law_side","_law_word","_law_value","_law_far","_law_text_here","_law_some"] ["_law_wish_here","_law_cell"] (aA og):=by exists 2
theorem zZ:j8 ["_law_wish_here","_law_cell"] "_law_wrong" "_law_wrong" og:=by exists 3
noncomputable abbrev oj:Stmt:=top 113
theorem jR:aU ["_law_cell","_law_lag","_law_number","_law_deeds_here","_law_k"] ["_law_cell","_law_lag"] (aA oj):=by exists 2
theorem z6:j8 ["_law_cell","_law_lag"] "_law_deeds" "_law_deeds" oj:=by exists 3
noncomputable abbrev oh:Stmt:=top 114
theorem mU:aU ["_law_deeds_here","_law_cell","_law_lag","_law_copies","_law_at"] ["_law_deeds_here","_law_cell","_law_lag"] (aA oh):=by exists 2
theorem z4:j8 ["_law_deeds_here","_law_cell","_law_lag"] "_law_spoil" "_law_spoil" oh:=by exists 3
noncomputable abbrev lO:Stmt:=top 115
theorem bA:aU ["_law_terms","_law_roads","_law_wishes","_law_walk","_law_told","e","_law_quiet","_law_fine"] ["_law_terms","_law_roads","_law_wishes"] (aA lO):=by exists 2
theorem xu:j8 ["_law_terms","_law_roads","_law_wishes"] "_law_refusal" "_law_refusal" lO:=by exists 3
noncomputable abbrev G7:Stmt:=top 116
theorem cJ:aU ["_law_script","_law_number","_law_rooms","_law_lag","_law_terms","_law_wishes","_law_due","_law_odd","_law_at","_law_roads","_law_bad","_law_before","_law_found"] ["_law_script"] (aA G7):=by exists 2
theorem JJ:j8 ["_law_script"] "law" "law" G7:=by exists 3
section
variable {x v0 v1 v2 v3 v4 v5 v6 v7 v8 v9 v10 v11:V}
noncomputable def sA (v0:V):List (Str×V):=[("most",v0)]
theorem yT:(sA v0).length<1000:=by show 1<1000;decide
theorem yS:bD "most" v0 []=sA v0:=by kernel_rfl
noncomputable def sy (v0 v1:V):List (Str×V):=[("most",v0),("window",v1)]
theorem yR:(sy v0 v1).length<1000:=by show 2<1000;decide
theorem yQ:bD "window" v1 (sA v0)=sy v0 v1:=by kernel_rfl
noncomputable def sv (v0 v1 v2:V):List (Str×V):=[("most",v0),("window",v1),("knee",v2)]
theorem yP:(sv v0 v1 v2).length<1000:=by show 3<1000;decide
theorem yO:bD "knee" v2 (sy v0 v1)=sv v0 v1 v2:=by kernel_rfl
noncomputable def bZ (v0 v1 v2 v3:V):List (Str×V):=[("most",v0),("window",v1),("knee",v2),("counted",v3)]
theorem BI:bD "counted" v3 (sv v0 v1 v2)=bZ v0 v1 v2 v3:=by kernel_rfl
noncomputable def vg (v0:V):List (Str×V):=[("longest",v0)]
theorem zG:(vg v0).length<1000:=by show 1<1000;decide
theorem zF:bD "longest" v0 []=vg v0:=by kernel_rfl
noncomputable def vf (v0 v1:V):List (Str×V):=[("longest",v0),("smooth",v1)]
theorem zE:(vf v0 v1).length<1000:=by show 2<1000;decide
theorem zD:bD "smooth" v1 (vg v0)=vf v0 v1:=by kernel_rfl
noncomputable def ve (v0 v1 v2:V):List (Str×V):=[("longest",v0),("smooth",v1),("spread",v2)]
theorem zC:(ve v0 v1 v2).length<1000:=by show 3<1000;decide
theorem zB:bD "spread" v2 (vf v0 v1)=ve v0 v1 v2:=by kernel_rfl
noncomputable def iq (v0 v1 v2 v3:V):List (Str×V):=[("longest",v0),("smooth",v1),("spread",v2),("wait",v3)]
theorem CN:bD "wait" v3 (ve v0 v1 v2)=iq v0 v1 v2 v3:=by kernel_rfl
noncomputable def fu (v0:V):List (Str×V):=[("ring",v0)]
theorem xp:(fu v0).length<1000:=by show 1<1000;decide
theorem xo:bD "ring" v0 []=fu v0:=by kernel_rfl
noncomputable def j4 (v0 v1:V):List (Str×V):=[("ring",v0),("ways",v1)]
theorem xn:(j4 v0 v1).length<1000:=by show 2<1000;decide
theorem xk:bD "ways" v1 (fu v0)=j4 v0 v1:=by kernel_rfl
noncomputable def j3 (v0 v1 v2:V):List (Str×V):=[("ring",v0),("ways",v1),("meter",v2)]
theorem xj:(j3 v0 v1 v2).length<1000:=by show 3<1000;decide
theorem xi:bD "meter" v2 (j4 v0 v1)=j3 v0 v1 v2:=by kernel_rfl
noncomputable def qc (v0 v1 v2 v3:V):List (Str×V):=[("ring",v0),("ways",v1),("meter",v2),("things",v3)]
theorem xh:(qc v0 v1 v2 v3).length<1000:=by show 4<1000;decide
theorem xg:bD "things" v3 (j3 v0 v1 v2)=qc v0 v1 v2 v3:=by kernel_rfl
noncomputable def qb (v0 v1 v2 v3 v4:V):List (Str×V):=[("ring",v0),("ways",v1),("meter",v2),("things",v3),("base",v4)]
theorem xf:(qb v0 v1 v2 v3 v4).length<1000:=by show 5<1000;decide
theorem xc:bD "base" v4 (qc v0 v1 v2 v3)=qb v0 v1 v2 v3 v4:=by kernel_rfl
noncomputable def qa (v0 v1 v2 v3 v4 v5:V):List (Str×V):=[("ring",v0),("ways",v1),("meter",v2),("things",v3),("base",v4),("top",v5)]
theorem w_:(qa v0 v1 v2 v3 v4 v5).length<1000:=by show 6<1000;decide
theorem w9:bD "top" v5 (qb v0 v1 v2 v3 v4)=qa v0 v1 v2 v3 v4 v5:=by kernel_rfl
noncomputable def p_ (v0 v1 v2 v3 v4 v5 v6:V):List (Str×V):=[("ring",v0),("ways",v1),("meter",v2),("things",v3),("base",v4),("top",v5),("edge",v6)]
theorem w6:(p_ v0 v1 v2 v3 v4 v5 v6).length<1000:=by show 7<1000;decide
theorem w5:bD "edge" v6 (qa v0 v1 v2 v3 v4 v5)=p_ v0 v1 v2 v3 v4 v5 v6:=by kernel_rfl
noncomputable def p9 (v0 v1 v2 v3 v4 v5 v6 v7:V):List (Str×V):=[("ring",v0),("ways",v1),("meter",v2),("things",v3),("base",v4),("top",v5),("edge",v6),("clock",v7)]
theorem wZ:(p9 v0 v1 v2 v3 v4 v5 v6 v7).length<1000:=by show 8<1000;decide
theorem wY:bD "clock" v7 (p_ v0 v1 v2 v3 v4 v5 v6)=p9 v0 v1 v2 v3 v4 v5 v6 v7:=by kernel_rfl
noncomputable def j2 (v0 v1 v2 v3 v4 v5 v6 v7 v8:V):List (Str×V):=[("ring",v0),("ways",v1),("meter",v2),("things",v3),("base",v4),("top",v5),("edge",v6),("clock",v7),("base_hurried",v8)]
theorem wX:(j2 v0 v1 v2 v3 v4 v5 v6 v7 v8).length<1000:=by show 9<1000;decide
theorem wW:bD "base_hurried" v8 (p9 v0 v1 v2 v3 v4 v5 v6 v7)=j2 v0 v1 v2 v3 v4 v5 v6 v7 v8:=by kernel_rfl
noncomputable def iv (v0 v1 v2 v3 v4 v5 v6 v7 v8 v9:V):List (Str×V):=[("ring",v0),("ways",v1),("meter",v2),("things",v3),("base",v4),("top",v5),("edge",v6),("clock",v7),("base_hurried",v8),("known_places",v9)]
theorem vy:(iv v0 v1 v2 v3 v4 v5 v6 v7 v8 v9).length<1000:=by show 10<1000;decide
theorem vx:bD "known_places" v9 (j2 v0 v1 v2 v3 v4 v5 v6 v7 v8)=iv v0 v1 v2 v3 v4 v5 v6 v7 v8 v9:=by kernel_rfl
noncomputable def ir (v0 v1 v2 v3 v4 v5 v6 v7 v8 v9 v10:V):List (Str×V):=[("ring",v0),("ways",v1),("meter",v2),("things",v3),("base",v4),("top",v5),("edge",v6),("clock",v7),("base_hurried",v8),("known_places",v9),("first_turns",v10)]
theorem vw:(ir v0 v1 v2 v3 v4 v5 v6 v7 v8 v9 v10).length<1000:=by show 11<1000;decide
theorem vv:bD "first_turns" v10 (iv v0 v1 v2 v3 v4 v5 v6 v7 v8 v9)=ir v0 v1 v2 v3 v4 v5 v6 v7 v8 v9 v10:=by kernel_rfl
noncomputable def jG (v0 v1 v2 v3 v4 v5 v6 v7 v8 v9 v10 v11:V):List (Str×V):=[("ring",v0),("ways",v1),("meter",v2),("things",v3),("base",v4),("top",v5),("edge",v6),("clock",v7),("base_hurried",v8),("known_places",v9),("first_turns",v10),("gone_again",v11)]
theorem zK:bD "gone_again" v11 (ir v0 v1 v2 v3 v4 v5 v6 v7 v8 v9 v10)=jG v0 v1 v2 v3 v4 v5 v6 v7 v8 v9 v10 v11:=by kernel_rfl
theorem p8:(jG v0 v1 v2 v3 v4 v5 v6 v7 v8 v9 v10 v11).lookup ("things" : Str)=some v3:=by kernel_rfl
theorem sr:(jG v0 v1 v2 v3 v4 v5 v6 v7 v8 v9 v10 v11).lookup ("base" : Str)=some v4:=by kernel_rfl
theorem tL:(jG v0 v1 v2 v3 v4 v5 v6 v7 v8 v9 v10 v11).lookup ("top" : Str)=some v5:=by kernel_rfl
theorem tK:(jG v0 v1 v2 v3 v4 v5 v6 v7 v8 v9 v10 v11).lookup ("many" : Str)=none:=by kernel_rfl
noncomputable def sq (v0 v1:V):List (Str×V):=[("ring",v0),("room",v1)]
theorem yN:(sq v0 v1).length<1000:=by show 2<1000;decide
theorem yM:bD "room" v1 (fu v0)=sq v0 v1:=by kernel_rfl
noncomputable def so (v0 v1 v2:V):List (Str×V):=[("ring",v0),("room",v1),("got",v2)]
theorem yL:(so v0 v1 v2).length<1000:=by show 3<1000;decide
theorem yK:bD "got" v2 (sq v0 v1)=so v0 v1 v2:=by kernel_rfl
noncomputable def sj (v0 v1 v2 v3:V):List (Str×V):=[("ring",v0),("room",v1),("got",v2),("out",v3)]
theorem yJ:(sj v0 v1 v2 v3).length<1000:=by show 4<1000;decide
theorem yI:bD "out" v3 (so v0 v1 v2)=sj v0 v1 v2 v3:=by kernel_rfl
noncomputable def tJ (v0 v1 v2 v3 v4:V):List (Str×V):=[("ring",v0),("room",v1),("got",v2),("out",v3),("kept",v4)]
theorem BH:bD "kept" v4 (sj v0 v1 v2 v3)=tJ v0 v1 v2 v3 v4:=by kernel_rfl
theorem vt:(tJ v0 v1 v2 v3 v4).lookup ("got" : Str)=some v2:=by kernel_rfl
theorem vq:(tJ v0 v1 v2 v3 v4).lookup ("out" : Str)=some v3:=by kernel_rfl
noncomputable def vC (v0:V):List (Str×V):=[("side",v0)]
theorem zX:(vC v0).length<1000:=by show 1<1000;decide
theorem zW:bD "side" v0 []=vC v0:=by kernel_rfl
noncomputable def nI (v0 v1:V):List (Str×V):=[("side",v0),("ring",v1)]
theorem zV:(nI v0 v1).length<1000:=by show 2<1000;decide
theorem zU:bD "ring" v1 (vC v0)=nI v0 v1:=by kernel_rfl
noncomputable def cH (v0 v1 v2:V):List (Str×V):=[("side",v0),("ring",v1),("taker",v2)]
theorem zS:(cH v0 v1 v2).length<1000:=by show 3<1000;decide
theorem zR:bD "taker" v2 (nI v0 v1)=cH v0 v1 v2:=by kernel_rfl
noncomputable def cv (v0 v1 v2 v3:V):List (Str×V):=[("side",v0),("ring",v1),("taker",v2),("sender",v3)]
theorem zQ:(cv v0 v1 v2 v3).length<1000:=by show 4<1000;decide
theorem zP:bD "sender" v3 (cH v0 v1 v2)=cv v0 v1 v2 v3:=by kernel_rfl
noncomputable def vB (v0 v1 v2 v3 v4:V):List (Str×V):=[("side",v0),("ring",v1),("taker",v2),("sender",v3),("state",v4)]
theorem zO:(vB v0 v1 v2 v3 v4).length<1000:=by show 5<1000;decide
theorem zN:bD "state" v4 (cv v0 v1 v2 v3)=vB v0 v1 v2 v3 v4:=by kernel_rfl
noncomputable def qD (v0 v1 v2 v3 v4 v5:V):List (Str×V):=[("side",v0),("ring",v1),("taker",v2),("sender",v3),("state",v4),("answer_due",v5)]
theorem zM:(qD v0 v1 v2 v3 v4 v5).length<1000:=by show 6<1000;decide
theorem zL:bD "answer_due" v5 (vB v0 v1 v2 v3 v4)=qD v0 v1 v2 v3 v4 v5:=by kernel_rfl
noncomputable def lr (v0 v1 v2 v3 v4 v5 v6:V):List (Str×V):=[("side",v0),("ring",v1),("taker",v2),("sender",v3),("state",v4),("answer_due",v5),("end_places",v6)]
theorem CO:bD "end_places" v6 (qD v0 v1 v2 v3 v4 v5)=lr v0 v1 v2 v3 v4 v5 v6:=by kernel_rfl
theorem tM:(lr v0 v1 v2 v3 v4 v5 v6).lookup ("taker" : Str)=some v2:=by kernel_rfl
theorem sC:(lr v0 v1 v2 v3 v4 v5 v6).lookup ("sender" : Str)=some v3:=by kernel_rfl
theorem tN:(lr v0 v1 v2 v3 v4 v5 v6).lookup ("state" : Str)=some v4:=by kernel_rfl
theorem oQ:(lr v0 v1 v2 v3 v4 v5 v6).lookup ("answer_due" : Str)=some v5:=by kernel_rfl
theorem xq:(lr v0 v1 v2 v3 v4 v5 v6).lookup ("name" : Str)=none:=by kernel_rfl
theorem vA:(lr v0 v1 v2 v3 v4 v5 v6).lookup ("quiet" : Str)=none:=by kernel_rfl
noncomputable def vz (v0:V):List (Str×V):=[("deeds",v0)]
theorem ri:(vz v0).length<1000:=by show 1<1000;decide
theorem jX:bD "deeds" v0 []=vz v0:=by kernel_rfl
noncomputable def jH (v0 v1:V):List (Str×V):=[("deeds",v0),("sendings",v1)]
theorem rh:(jH v0 v1).length<1000:=by show 2<1000;decide
theorem m_:bD "sendings" v1 (vz v0)=jH v0 v1:=by kernel_rfl
noncomputable def mK (v0 v1 v2:V):List (Str×V):=[("deeds",v0),("sendings",v1),("coming",v2)]
theorem wg:bD "coming" v2 (jH v0 v1)=mK v0 v1 v2:=by kernel_rfl
theorem su:(mK v0 v1 v2).lookup ("coming" : Str)=some v2:=by kernel_rfl
theorem qd:(mK v0 v1 v2).lookup ("under_way" : Str)=none:=by kernel_rfl
noncomputable def vo (v0:V):List (Str×V):=[("roads",v0)]
theorem zJ:(vo v0).length<1000:=by show 1<1000;decide
theorem zI:bD "roads" v0 []=vo v0:=by kernel_rfl
noncomputable def dh (v0 v1:V):List (Str×V):=[("roads",v0),("terms",v1)]
theorem zH:bD "terms" v1 (vo v0)=dh v0 v1:=by kernel_rfl
noncomputable def AA (v0 v1 v2:V):List (Str×V):=[("roads",v0),("terms",v1),("deeds",v2)]
noncomputable def Az (v0 v1 v2 v3:V):List (Str×V):=[("roads",v0),("terms",v1),("deeds",v2),("wishes",v3)]
noncomputable def cG (v0 v1 v2 v3 v4:V):List (Str×V):=[("roads",v0),("terms",v1),("deeds",v2),("wishes",v3),("last_wish",v4)]
noncomputable def lC (v0 v1 v2 v3 v4 v5:V):List (Str×V):=[("roads",v0),("terms",v1),("deeds",v2),("wishes",v3),("last_wish",v4),("hands",v5)]
noncomputable def vn (v0 v1 v2 v3 v4 v5 v6:V):List (Str×V):=[("roads",v0),("terms",v1),("deeds",v2),("wishes",v3),("last_wish",v4),("hands",v5),("outs",v6)]
noncomputable def vm (v0 v1 v2 v3 v4 v5 v6 v7:V):List (Str×V):=[("roads",v0),("terms",v1),("deeds",v2),("wishes",v3),("last_wish",v4),("hands",v5),("outs",v6),("told",v7)]
noncomputable def cj (v0 v1 v2 v3 v4 v5 v6 v7 v8:V):List (Str×V):=[("roads",v0),("terms",v1),("deeds",v2),("wishes",v3),("last_wish",v4),("hands",v5),("outs",v6),("told",v7),("turn",v8)]
theorem tF:(cj v0 v1 v2 v3 v4 v5 v6 v7 v8).lookup ("roads" : Str)=some v0:=by kernel_rfl
theorem ph:(cj v0 v1 v2 v3 v4 v5 v6 v7 v8).lookup ("last_wish" : Str)=some v4:=by kernel_rfl
theorem tG:(cj v0 v1 v2 v3 v4 v5 v6 v7 v8).lookup ("hands" : Str)=some v5:=by kernel_rfl
theorem vk:(cj v0 v1 v2 v3 v4 v5 v6 v7 v8).lookup ("outs" : Str)=some v6:=by kernel_rfl
theorem vj:(cj v0 v1 v2 v3 v4 v5 v6 v7 v8).lookup ("told" : Str)=some v7:=by kernel_rfl
theorem vi:(cj v0 v1 v2 v3 v4 v5 v6 v7 v8).lookup ("turn" : Str)=some v8:=by kernel_rfl
theorem tE:(cj v0 v1 v2 v3 v4 v5 v6 v7 v8).lookup ("unread" : Str)=none:=by kernel_rfl
theorem vh:(cj v0 v1 v2 v3 v4 v5 v6 v7 v8).lookup ("quiet" : Str)=none:=by kernel_rfl
theorem m9:(cj v0 v1 v2 v3 v4 v5 v6 v7 v8).lookup ("side_is_quiet" : Str)=none:=by kernel_rfl
theorem wV:(cj v0 v1 v2 v3 v4 v5 v6 v7 v8).lookup ("rows" : Str)=none:=by kernel_rfl
theorem qX:(cj v0 v1 v2 v3 v4 v5 v6 v7 v8).lookup ("given_in" : Str)=none:=by kernel_rfl
theorem pZ:(cj v0 v1 v2 v3 v4 v5 v6 v7 v8).lookup ("given_out" : Str)=none:=by kernel_rfl
noncomputable def si (v0 v1:V):List (Str×V):=[("ring",v0),("rooms",v1)]
theorem yH:(si v0 v1).length<1000:=by show 2<1000;decide
theorem yG:bD "rooms" v1 (fu v0)=si v0 v1:=by kernel_rfl
noncomputable def sh (v0 v1 v2:V):List (Str×V):=[("ring",v0),("rooms",v1),("lag",v2)]
theorem yF:(sh v0 v1 v2).length<1000:=by show 3<1000;decide
theorem yE:bD "lag" v2 (si v0 v1)=sh v0 v1 v2:=by kernel_rfl
noncomputable def sf (v0 v1 v2 v3:V):List (Str×V):=[("ring",v0),("rooms",v1),("lag",v2),("first",v3)]
theorem yD:(sf v0 v1 v2 v3).length<1000:=by show 4<1000;decide
theorem yC:bD "first" v3 (sh v0 v1 v2)=sf v0 v1 v2 v3:=by kernel_rfl
noncomputable def cX (v0 v1 v2 v3 v4:V):List (Str×V):=[("ring",v0),("rooms",v1),("lag",v2),("first",v3),("longest",v4)]
theorem BG:bD "longest" v4 (sf v0 v1 v2 v3)=cX v0 v1 v2 v3 v4:=by kernel_rfl
theorem tI:(cX v0 v1 v2 v3 v4).lookup ("ring" : Str)=some v0:=by kernel_rfl
theorem r_:(cX v0 v1 v2 v3 v4).lookup ("rooms" : Str)=some v1:=by kernel_rfl
theorem vp:(cX v0 v1 v2 v3 v4).lookup ("lag" : Str)=some v2:=by kernel_rfl
theorem se:(cX v0 v1 v2 v3 v4).lookup ("first" : Str)=some v3:=by kernel_rfl
theorem p7:(cX v0 v1 v2 v3 v4).lookup ("longest" : Str)=some v4:=by kernel_rfl
end
structure Txt (K:PySem.W.Frag) (mg:Str→Option Value) (ar ay af aI aO aY aT bj aQ aK aS aJ aw aD aB aL aG az lx aC aj aE aF ah ag ai:Addr):Prop where
 oO:cE K mg "Meter" ar
 oI:a6 K ar "most"
 l8:a6 K ar "window"
 oJ:a6 K ar "knee"
 kK:a6 K ar "counted"
 rZ:cE K mg "Ways" ay
 l5:a6 K ay "longest"
 mY:a6 K ay "smooth"
 mX:a6 K ay "spread"
 pT:a6 K ay "wait"
 bG:cE K mg "Sender" af
 m7:a6 K af "ring"
 m6:a6 K af "ways"
 l6:a6 K af "meter"
 cD:a6 K af "things"
 jU:a6 K af "base"
 lj:a6 K af "top"
 m8:a6 K af "edge"
 l7:a6 K af "clock"
 cM:a6 K af "base_hurried"
 cL:a6 K af "known_places"
 cT:a6 K af "first_turns"
 dM:a6 K af "gone_again"
 jW:cE K mg "Taker" aI
 oF:a6 K aI "ring"
 oE:a6 K aI "room"
 mI:a6 K aI "got"
 mH:a6 K aI "out"
 oG:a6 K aI "kept"
 cq:cE K mg "Hand" aO
 pU:a6 K aO "side"
 pV:a6 K aO "ring"
 ll:a6 K aO "taker"
 b_:a6 K aO "sender"
 lp:a6 K aO "state"
 cQ:a6 K aO "answer_due"
 gF:a6 K aO "end_places"
 oN:cE K mg "Road" aY
 oH:a6 K aY "deeds"
 kJ:a6 K aY "sendings"
 jV:a6 K aY "coming"
 bN:cE K mg "Walk" aT
 lh:a6 K aT "roads"
 oB:a6 K aT "terms"
 oC:a6 K aT "deeds"
 mZ:a6 K aT "wishes"
 dc:a6 K aT "last_wish"
 df:a6 K aT "hands"
 mG:a6 K aT "outs"
 mF:a6 K aT "told"
 jZ:a6 K aT "turn"
 bY:cE K mg "Terms" bj
 dg:a6 K bj "ring"
 dY:a6 K bj "rooms"
 j0:a6 K bj "lag"
 jT:a6 K bj "first"
 d6:a6 K bj "longest"
 k8:t6 K mg "RoadError" aQ
 xU:t6 K mg "NoFrame" aK
 z_:t6 K mg "Spoilt" aS
 xT:t6 K mg "NoPiece" aJ
 nK:t6 K mg "BadRoad" aw
 vU:t6 K mg "BadTerms" aD
 xR:t6 K mg "NotWide" aB
 xV:t6 K mg "BadText" aL
 Aa:t6 K mg "NotNow" aG
 nJ:t6 K mg "BadWish" az
 Ac:Lz K mg "NoFrame" aK aQ
 vc:lu K aK
 yw:PySem.W.keepIn K (.ref aK)=true
 iF:vS K aK "frame"
 rN:PySem.W.kitOne K (.ref aK) (.type "ValueError")=some true
 dF:PySem.W.kitOne K (.ref aK) (.ref aQ)=some true
 dP:isx K (.ref aK) aQ=some true
 f_:PySem.W.kitOne K (.ref aK) (.ref aK)=some true
 gY:isx K (.ref aK) aK=some true
 i_:PySem.W.kitOne K (.ref aK) (.ref aS)=some false
 jy:isx K (.ref aK) aS=some false
 f9:PySem.W.kitOne K (.ref aK) (.ref aJ)=some false
 gX:isx K (.ref aK) aJ=some false
 gf:PySem.W.kitOne K (.ref aK) (.ref aw)=some false
 g7:isx K (.ref aK) aw=some false
 ez:PySem.W.kitOne K (.ref aK) (.ref aD)=some false
 eT:isx K (.ref aK) aD=some false
 f7:PySem.W.kitOne K (.ref aK) (.ref aB)=some false
 gW:isx K (.ref aK) aB=some false
 gc:PySem.W.kitOne K (.ref aK) (.ref aL)=some false
 g0:isx K (.ref aK) aL=some false
 ja:PySem.W.kitOne K (.ref aK) (.ref aG)=some false
 jz:isx K (.ref aK) aG=some false
 gb:PySem.W.kitOne K (.ref aK) (.ref az)=some false
 gZ:isx K (.ref aK) az=some false
 Cd:Lz K mg "Spoilt" aS aQ
 yA:lu K aS
 Au:PySem.W.keepIn K (.ref aS)=true
 j9:vS K aS "frame"
 uQ:PySem.W.kitOne K (.ref aS) (.type "ValueError")=some true
 ee:PySem.W.kitOne K (.ref aS) (.ref aQ)=some true
 eP:isx K (.ref aS) aQ=some true
 iT:PySem.W.kitOne K (.ref aS) (.ref aK)=some false
 jj:isx K (.ref aS) aK=some false
 kE:PySem.W.kitOne K (.ref aS) (.ref aS)=some true
 kL:isx K (.ref aS) aS=some true
 iS:PySem.W.kitOne K (.ref aS) (.ref aJ)=some false
 ji:isx K (.ref aS) aJ=some false
 iW:PySem.W.kitOne K (.ref aS) (.ref aw)=some false
 jm:isx K (.ref aS) aw=some false
 fM:PySem.W.kitOne K (.ref aS) (.ref aD)=some false
 gG:isx K (.ref aS) aD=some false
 iR:PySem.W.kitOne K (.ref aS) (.ref aB)=some false
 jh:isx K (.ref aS) aB=some false
 iV:PySem.W.kitOne K (.ref aS) (.ref aL)=some false
 jl:isx K (.ref aS) aL=some false
 kG:PySem.W.kitOne K (.ref aS) (.ref aG)=some false
 kM:isx K (.ref aS) aG=some false
 iU:PySem.W.kitOne K (.ref aS) (.ref az)=some false
 jk:isx K (.ref aS) az=some false
 Ab:Lz K mg "NoPiece" aJ aQ
 vb:lu K aJ
 yu:PySem.W.keepIn K (.ref aJ)=true
 kb:vS K aJ "what"
 rM:PySem.W.kitOne K (.ref aJ) (.type "ValueError")=some true
 dE:PySem.W.kitOne K (.ref aJ) (.ref aQ)=some true
 dO:isx K (.ref aJ) aQ=some true
 fW:PySem.W.kitOne K (.ref aJ) (.ref aK)=some false
 gR:isx K (.ref aJ) aK=some false
 i8:PySem.W.kitOne K (.ref aJ) (.ref aS)=some false
 jw:isx K (.ref aJ) aS=some false
 fV:PySem.W.kitOne K (.ref aJ) (.ref aJ)=some true
 gQ:isx K (.ref aJ) aJ=some true
 fZ:PySem.W.kitOne K (.ref aJ) (.ref aw)=some false
 gU:isx K (.ref aJ) aw=some false
 et:PySem.W.kitOne K (.ref aJ) (.ref aD)=some false
 eS:isx K (.ref aJ) aD=some false
 fU:PySem.W.kitOne K (.ref aJ) (.ref aB)=some false
 gP:isx K (.ref aJ) aB=some false
 fY:PySem.W.kitOne K (.ref aJ) (.ref aL)=some false
 gT:isx K (.ref aJ) aL=some false
 i9:PySem.W.kitOne K (.ref aJ) (.ref aG)=some false
 jx:isx K (.ref aJ) aG=some false
 fX:PySem.W.kitOne K (.ref aJ) (.ref az)=some false
 gS:isx K (.ref aJ) az=some false
 nr:Lz K mg "BadRoad" aw aQ
 qB:lu K aw
 oM:PySem.W.keepIn K (.ref aw)=true
 dX:vS K aw "at"
 rQ:PySem.W.kitOne K (.ref aw) (.type "ValueError")=some true
 dJ:PySem.W.kitOne K (.ref aw) (.ref aQ)=some true
 dU:isx K (.ref aw) aQ=some true
 gB:PySem.W.kitOne K (.ref aw) (.ref aK)=some false
 ie:isx K (.ref aw) aK=some false
 jf:PySem.W.kitOne K (.ref aw) (.ref aS)=some false
 jE:isx K (.ref aw) aS=some false
 gA:PySem.W.kitOne K (.ref aw) (.ref aJ)=some false
 ic:isx K (.ref aw) aJ=some false
 gE:PySem.W.kitOne K (.ref aw) (.ref aw)=some true
 ip:isx K (.ref aw) aw=some true
 eK:PySem.W.kitOne K (.ref aw) (.ref aD)=some false
 e_:isx K (.ref aw) aD=some false
 gz:PySem.W.kitOne K (.ref aw) (.ref aB)=some false
 ib:isx K (.ref aw) aB=some false
 gD:PySem.W.kitOne K (.ref aw) (.ref aL)=some false
 ij:isx K (.ref aw) aL=some false
 jg:PySem.W.kitOne K (.ref aw) (.ref aG)=some false
 jF:isx K (.ref aw) aG=some false
 gC:PySem.W.kitOne K (.ref aw) (.ref az)=some false
 ig:isx K (.ref aw) az=some false
 nL:y4 K mg "BadTerms" aD aQ none
 r9:lu K aD
 pQ:PySem.W.kitOne K (.ref aD) (.type "ValueError")=some true
 cS:PySem.W.kitOne K (.ref aD) (.ref aQ)=some true
 cU:isx K (.ref aD) aQ=some true
 eF:PySem.W.kitOne K (.ref aD) (.ref aK)=some false
 eY:isx K (.ref aD) aK=some false
 gx:PySem.W.kitOne K (.ref aD) (.ref aS)=some false
 h_:isx K (.ref aD) aS=some false
 eE:PySem.W.kitOne K (.ref aD) (.ref aJ)=some false
 eX:isx K (.ref aD) aJ=some false
 eJ:PySem.W.kitOne K (.ref aD) (.ref aw)=some false
 e8:isx K (.ref aD) aw=some false
 dI:PySem.W.kitOne K (.ref aD) (.ref aD)=some true
 dS:isx K (.ref aD) aD=some true
 eC:PySem.W.kitOne K (.ref aD) (.ref aB)=some false
 eW:isx K (.ref aD) aB=some false
 eI:PySem.W.kitOne K (.ref aD) (.ref aL)=some false
 e7:isx K (.ref aD) aL=some false
 gy:PySem.W.kitOne K (.ref aD) (.ref aG)=some false
 ia:isx K (.ref aD) aG=some false
 eG:PySem.W.kitOne K (.ref aD) (.ref az)=some false
 eZ:isx K (.ref aD) az=some false
 qw:Lz K mg "NotWide" aB aQ
 va:lu K aB
 rX:PySem.W.keepIn K (.ref aB)=true
 c8:vS K aB "least"
 rL:PySem.W.kitOne K (.ref aB) (.type "ValueError")=some true
 dC:PySem.W.kitOne K (.ref aB) (.ref aQ)=some true
 dN:isx K (.ref aB) aQ=some true
 fP:PySem.W.kitOne K (.ref aB) (.ref aK)=some false
 gJ:isx K (.ref aB) aK=some false
 iX:PySem.W.kitOne K (.ref aB) (.ref aS)=some false
 jn:isx K (.ref aB) aS=some false
 fO:PySem.W.kitOne K (.ref aB) (.ref aJ)=some false
 gI:isx K (.ref aB) aJ=some false
 fS:PySem.W.kitOne K (.ref aB) (.ref aw)=some false
 gM:isx K (.ref aB) aw=some false
 eg:PySem.W.kitOne K (.ref aB) (.ref aD)=some false
 eQ:isx K (.ref aB) aD=some false
 fN:PySem.W.kitOne K (.ref aB) (.ref aB)=some true
 gH:isx K (.ref aB) aB=some true
 fR:PySem.W.kitOne K (.ref aB) (.ref aL)=some false
 gL:isx K (.ref aB) aL=some false
 iY:PySem.W.kitOne K (.ref aB) (.ref aG)=some false
 jo:isx K (.ref aB) aG=some false
 fQ:PySem.W.kitOne K (.ref aB) (.ref az)=some false
 gK:isx K (.ref aB) az=some false
 Ae:y4 K mg "BadText" aL aQ none
 vd:lu K aL
 rP:PySem.W.kitOne K (.ref aL) (.type "ValueError")=some true
 dH:PySem.W.kitOne K (.ref aL) (.ref aQ)=some true
 dR:isx K (.ref aL) aQ=some true
 gr:PySem.W.kitOne K (.ref aL) (.ref aK)=some false
 h6:isx K (.ref aL) aK=some false
 jd:PySem.W.kitOne K (.ref aL) (.ref aS)=some false
 jC:isx K (.ref aL) aS=some false
 gq:PySem.W.kitOne K (.ref aL) (.ref aJ)=some false
 hZ:isx K (.ref aL) aJ=some false
 gw:PySem.W.kitOne K (.ref aL) (.ref aw)=some false
 h9:isx K (.ref aL) aw=some false
 eB:PySem.W.kitOne K (.ref aL) (.ref aD)=some false
 eV:isx K (.ref aL) aD=some false
 gp:PySem.W.kitOne K (.ref aL) (.ref aB)=some false
 hX:isx K (.ref aL) aB=some false
 gv:PySem.W.kitOne K (.ref aL) (.ref aL)=some true
 h8:isx K (.ref aL) aL=some true
 je:PySem.W.kitOne K (.ref aL) (.ref aG)=some false
 jD:isx K (.ref aL) aG=some false
 gu:PySem.W.kitOne K (.ref aL) (.ref az)=some false
 h7:isx K (.ref aL) az=some false
 Ce:Lz K mg "NotNow" aG aQ
 yB:lu K aG
 Av:PySem.W.keepIn K (.ref aG)=true
 j_:vS K aG "state"
 lG:vS K aG "wish"
 uR:PySem.W.kitOne K (.ref aG) (.type "ValueError")=some true
 eh:PySem.W.kitOne K (.ref aG) (.ref aQ)=some true
 eR:isx K (.ref aG) aQ=some true
 i4:PySem.W.kitOne K (.ref aG) (.ref aK)=some false
 js:isx K (.ref aG) aK=some false
 kH:PySem.W.kitOne K (.ref aG) (.ref aS)=some false
 kN:isx K (.ref aG) aS=some false
 i3:PySem.W.kitOne K (.ref aG) (.ref aJ)=some false
 jr:isx K (.ref aG) aJ=some false
 i7:PySem.W.kitOne K (.ref aG) (.ref aw)=some false
 jv:isx K (.ref aG) aw=some false
 fT:PySem.W.kitOne K (.ref aG) (.ref aD)=some false
 gN:isx K (.ref aG) aD=some false
 iZ:PySem.W.kitOne K (.ref aG) (.ref aB)=some false
 jq:isx K (.ref aG) aB=some false
 i6:PySem.W.kitOne K (.ref aG) (.ref aL)=some false
 ju:isx K (.ref aG) aL=some false
 kI:PySem.W.kitOne K (.ref aG) (.ref aG)=some true
 kO:isx K (.ref aG) aG=some true
 i5:PySem.W.kitOne K (.ref aG) (.ref az)=some false
 jt:isx K (.ref aG) az=some false
 qx:Lz K mg "BadWish" az aQ
 qA:lu K az
 rY:PySem.W.keepIn K (.ref az)=true
 dW:vS K az "at"
 rO:PySem.W.kitOne K (.ref az) (.type "ValueError")=some true
 dG:PySem.W.kitOne K (.ref az) (.ref aQ)=some true
 dQ:isx K (.ref az) aQ=some true
 gj:PySem.W.kitOne K (.ref az) (.ref aK)=some false
 g_:isx K (.ref az) aK=some false
 jb:PySem.W.kitOne K (.ref az) (.ref aS)=some false
 jA:isx K (.ref az) aS=some false
 gi:PySem.W.kitOne K (.ref az) (.ref aJ)=some false
 g9:isx K (.ref az) aJ=some false
 gn:PySem.W.kitOne K (.ref az) (.ref aw)=some false
 hV:isx K (.ref az) aw=some false
 eA:PySem.W.kitOne K (.ref az) (.ref aD)=some false
 eU:isx K (.ref az) aD=some false
 gg:PySem.W.kitOne K (.ref az) (.ref aB)=some false
 g8:isx K (.ref az) aB=some false
 gm:PySem.W.kitOne K (.ref az) (.ref aL)=some false
 hU:isx K (.ref az) aL=some false
 jc:PySem.W.kitOne K (.ref az) (.ref aG)=some false
 jB:isx K (.ref az) aG=some false
 gk:PySem.W.kitOne K (.ref az) (.ref az)=some true
 hJ:isx K (.ref az) az=some true
 EZ:cE K mg "State" lx
 BA:cE K mg "Shut" aC
 u_:cE K mg "Calling" aj
 D0:cE K mg "Open" aE
 D1:cE K mg "Left" aF
 u0:cE K mg "Leaving" ah
 uZ:cE K mg "Waiting" ag
 u9:cE K mg "Closing" ai
 By:t7 K aC
 yq:t7 K aj
 EV:t7 K aE
 EW:t7 K aF
 yo:t7 K ah
 yn:t7 K ag
 yp:t7 K ai
 vI:b8 K mg "is_from" uN
 fh:MethAt K aw "__init__" "BadRoad.__init__" d_
 fc:MethAt K aB "__init__" "NotWide.__init__" d8
 ff:MethAt K az "__init__" "BadWish.__init__" d9
 jM:MethAt K ar "__init__" "Meter.__init__" iQ
 kQ:MethAt K ay "__init__" "Ways.__init__" kz
 iy:MethAt K af "__init__" "Sender.__init__" fK
 nh:MethAt K af "many" "Sender.many" mW
 ml:MethAt K af "thing" "Sender.thing" lR
 qk:MethAt K aC "name" "Shut.name" pL
 mr:MethAt K aj "name" "Calling.name" lU
 qm:MethAt K aE "name" "Open.name" pM
 qo:MethAt K aF "name" "Left.name" pN
 mm:MethAt K ah "name" "Leaving.name" lS
 mj:MethAt K ag "name" "Waiting.name" lQ
 mq:MethAt K ai "name" "Closing.name" lT
 jK:MethAt K aI "__init__" "Taker.__init__" iO
 vH:b8 K mg "is_text" uM
 kU:MethAt K aO "__init__" "Hand.__init__" kD
 qp:MethAt K aO "name" "Hand.name" pO
 oY:MethAt K aO "quiet" "Hand.quiet" oo
 yX:b8 K mg "copied" ya
 vK:b8 K mg "is_copy" uP
 vJ:b8 K mg "is_deed" uO
 oR:b8 K mg "check_road" n_
 kT:MethAt K aY "__init__" "Road.__init__" kC
 jL:MethAt K aY "under_way" "Road.under_way" iP
 vG:b8 K mg "is_wish" uL
 sD:b8 K mg "is_value" rJ
 mf:b8 K mg "check_wishes" lN
 ma:b8 K mg "last_turn_of" lM
 vF:b8 K mg "own_row" uK
 kS:MethAt K aT "__init__" "Walk.__init__" kB
 ng:MethAt K aT "unread" "Walk.unread" mV
 oX:MethAt K aT "quiet" "Walk.quiet" om
 cZ:MethAt K aT "side_is_quiet" "Walk.side_is_quiet" cR
 qj:MethAt K aT "rows" "Walk.rows" pK
 kR:MethAt K aT "given_in" "Walk.given_in" kA
 jI:MethAt K aT "given_out" "Walk.given_out" iM
 Ea:b8 K mg "need" Dz
 qg:b8 K mg "are_rooms" pH
 qf:b8 K mg "are_waits" pG
 jJ:MethAt K bj "__init__" "Terms.__init__" iN
 mi:b8 K mg "_law_cell_at" lP
 oV:b8 K mg "_law_mixed" oi
 qi:b8 K mg "_law_text" pJ
 qh:b8 K mg "_law_wish" pI
 oS:b8 K mg "_law_wrong" og
 oW:b8 K mg "_law_deeds" oj
 oU:b8 K mg "_law_spoil" oh
 mh:b8 K mg "_law_refusal" lO
 Fd:b8 K mg "law" G7
 wk:mg "all" = none
 sG:mg "bool" = none
 mL:mg "enumerate" = none
 AI:mg "int" = none
 a9:mg "isinstance" = none
 k6:mg "len" = none
 o5:mg "list" = none
 Fg:mg "max" = none
 JK:mg "min" = none
 qH:mg "range" = none
 C3:mg "str" = none
 tY:mg "tuple" = none
 tR:k7 mg "SIGNS" (.str " !\"#$&'()*+,-./0123456789:;<=>?@ABCDEFGHIJKLMNOPQRSTUVWXYZ[\\]^_`abcdefghijklmnopqrstuvwxyz{|}~")
 j7:k7 mg "TEXT_MOST" (.int 60)
 jP:k7 mg "LAG_MOST_roads" (.int 60)
 o3:k7 mg "DEEDS_MOST" (.int 60)
 nk:k7 mg "COPIES_MOST" (.int 3)
 oZ:k7 mg "PLACE_MOST" (.int 66)
 sE:k7 mg "RUN_MOST" (.int 255)
 BP:TupAt K mg "SIDES" [.int 0,.int 1]
 nj:k7 mg "WISHES_MOST" (.int 60)
 jN:k7 mg "WISH_TURN_MOST" (.int 400)
 qt:k7 mg "READ_MOST" (.int 60)
 qr:k7 mg "RING_MOST" (.int 64)
 iz:k7 mg "ROOM_MOST_terms" (.int 16)
 jO:k7 mg "LAG_MOST_terms" (.int 32)
 cy:k7 mg "WAIT_LEAST_terms" (.int 2)
 qq:k7 mg "WAIT_MOST" (.int 64)
noncomputable section
open PySem W
abbrev Ob:=Obj
abbrev Pm:=Params
noncomputable abbrev q (x:String) (k:Nat):Value:= .str (Str.ofString x) k
noncomputable abbrev tp (x:List Value):Obj:=⟨.type "tuple",none,.seq x.toArray,#[]⟩
noncomputable abbrev fm (n m:String) (t:Stmt):=FuncData.mk (Str.ofString n) (Str.ofString m) (L2.di t) (.stmts (L2.b7 t)) (L2.aA t)
noncomputable abbrev cd (n:String) (a:Nat) (m:String) (b c:Nat) (l d e f g:Int) (r:Nat) (o:Bool) (k:Int) (s:Nat) (v w x y:Value) (i:Int) (z:Nat):Ob:=⟨.type "code",none,.fields #[q n a,q m b,q "/claim/cut.py" c,.int l 0,.int d 0,.int e 0,.int f 0,.int g 0,.ref r,.bool o,.int k 0,.ref s,v,w,x,y,.int i 0,.int l 0,q "/claim/cut.py" z],#[]⟩
noncomputable abbrev f0 (n m:String) (t:Stmt):Ob:=⟨.none,none,.func (fm n m t 0 [] .none .none .none .none none .none .none 0),#[]⟩
noncomputable abbrev f1 (n m:String) (t:Stmt) (c:Nat) (v:Value) (r:Nat):Ob:=⟨.type "function",none,.func (fm n m t c [] .none .none .none v none (.ref r) .none 0),#[]⟩
abbrev den (P:Params) (x:String) (k:Nat) (v:Value):DictEntry:=DictEntry.mk (PyData.keyHash P (Str.ofString x)) (Value.str (Str.ofString x) k) v
def up:List Ob→BT→Nat→BT
 | [],t,_=>t
 |o::r,t,n=>up r (t.ins n o) (n+1)
def ch:List (Nat×Ob)→BT→BT
 | [],t=>t
 |p::r,t=>ch r (t.ins p.1 p.2)
noncomputable def mdl (P:Pm):List DictEntry:=[den P "__doc__" 166 .none,den P "__package__" 167 .none,den P "__loader__" 168 (.builtin "__main__.__loader__#opaque"),den P "__spec__" 169 .none,den P "__annotations__" 170 (.ref 6),den P "__builtins__" 171 (.ref 4),den P "__file__" 173 (q "/claim/cut.py" 172),den P "__cached__" 174 .none,den P "_wall" 193 (.ref 21),den P "is_from" 204 (.ref 28),den P "RoadError" 224 (.ref 38),den P "NoFrame" 249 (.ref 58),den P "Spoilt" 274 (.ref 77),den P "NoPiece" 299 (.ref 96),den P "BadRoad" 324 (.ref 115),den P "BadTerms" 340 (.ref 127),den P "NotWide" 365 (.ref 146),den P "BadText" 381 (.ref 158),den P "NotNow" 408 (.ref 177),den P "BadWish" 433 (.ref 196),den P "KINDS" 441 (.ref 199),den P "SIGNS" 443 (q " !\"#$&'()*+,-./0123456789:;<=>?@ABCDEFGHIJKLMNOPQRSTUVWXYZ[\\]^_`abcdefghijklmnopqrstuvwxyz{|}~" 442),den P "UNNUMBERED" 446 (.ref 200),den P "NUMBER_MOST" 448 (.int 63 447),den P "ROOM_MOST_pieces" 450 (.int 16 449),den P "HELD_MOST" 452 (.int 15 451),den P "SIGNS_MOST" 454 (.int 4 453),den P "FRAME_BITS" 456 (.int 74 455),den P "CHECK_BITS" 458 (.int 8 457),den P "DIVISOR" 460 (.int 263 459),den P "DIVISOR_BITS" 462 (.int 9 461),den P "REMAINDER_MOST" 464 (.int 255 463),den P "NO_KIND" 466 (q "" 465),den P "NO_SIGN" 468 (q "\n" 467),den P "is_piece" 476 (.ref 207),den P "is_held" 485 (.ref 214),den P "are_signs" 491 (.ref 219),den P "remainder" 499 (.ref 226),den P "written" 507 (.ref 233),den P "body_of" 515 (.ref 240),den P "bits_of_held" 521 (.ref 245),den P "bits_of_signs" 530 (.ref 252),den P "is_frame" 537 (.ref 259),den P "read" 545 (.ref 266),den P "likely_piece" 552 (.ref 273),den P "kind_of" 559 (.ref 280),den P "held_of" 565 (.ref 285),den P "signs_of" 571 (.ref 290),den P "sign_of" 578 (.ref 297),den P "Meter" 649 (.ref 349),den P "ahead" 660 (.ref 360),den P "WAIT_LEAST_ways" 664 (.int 2 663),den P "lowest" 673 (.ref 367),den P "Ways" 747 (.ref 419),den P "KNOWN_TO_HURRY" 751 (.int 2 750),den P "Sender" 935 (.ref 560),den P "State" 1006 (.ref 623),den P "Shut" 1043 (.ref 658),den P "Calling" 1087 (.ref 698),den P "Open" 1131 (.ref 738),den P "Left" 1168 (.ref 771),den P "Leaving" 1205 (.ref 804),den P "Waiting" 1235 (.ref 830),den P "Closing" 1265 (.ref 856),den P "Taker" 1343 (.ref 908),den P "TEXT_MOST" 1347 (.int 60 1346),den P "BEGIN" 1350 (.ref 913),den P "END" 1353 (.ref 914),den P "is_text" 1359 (.ref 919),den P "read_or_none" 1366 (.ref 926),den P "Hand" 1511 (.ref 1027),den P "LAG_MOST_roads" 1515 (.int 60 1514),den P "DEEDS_MOST" 1517 (.int 60 1516),den P "COPIES_MOST" 1519 (.int 3 1518),den P "PLACE_MOST" 1521 (.int 66 1520),den P "RUN_MOST" 1523 (.int 255 1522),den P "copied" 1529 (.ref 1036),den P "deed_at" 1537 (.ref 1043),den P "is_copy" 1545 (.ref 1050),den P "is_deed" 1551 (.ref 1055),den P "check_road" 1561 (.ref 1062),den P "Road" 1618 (.ref 1098),den P "SIDES" 1623 (.ref 1103),den P "WISHES_MOST" 1625 (.int 60 1624),den P "WISH_TURN_MOST" 1627 (.int 400 1626),den P "READ_MOST" 1629 (.int 60 1628),den P "is_wish" 1636 (.ref 1110),den P "is_value" 1644 (.ref 1117),den P "check_wishes" 1653 (.ref 1124),den P "last_turn_of" 1659 (.ref 1129),den P "own_row" 1666 (.ref 1136),den P "Walk" 1840 (.ref 1252),den P "need" 1850 (.ref 1263),den P "RING_MOST" 1854 (.int 64 1853),den P "ROOM_MOST_terms" 1856 (.int 16 1855),den P "LAG_MOST_terms" 1858 (.int 32 1857),den P "WAIT_LEAST_terms" 1860 (.int 2 1859),den P "WAIT_MOST" 1862 (.int 64 1861),den P "are_rooms" 1868 (.ref 1268),den P "are_waits" 1876 (.ref 1275),den P "Terms" 1907 (.ref 1290),den P "_law_cell_at" 1917 (.ref 1301),den P "_law_mixed" 1926 (.ref 1308),den P "_law_text" 1932 (.ref 1313),den P "_law_wish" 1942 (.ref 1320),den P "_law_wrong" 1957 (.ref 1327),den P "_law_deeds" 1968 (.ref 1334),den P "_law_spoil" 1979 (.ref 1341),den P "_law_refusal" 1993 (.ref 1348),den P "law" 1999 (.ref 1353)]
abbrev md (P:Pm) (v:Value) (k n:Nat):Ob:=⟨.type "dict",none,.dict ⟨den P "__name__" 165 v::(mdl P).take k⟩ n,#[]⟩
noncomputable def ltl:List Value:=[.int 1 0,.int 0 0,.ref 20,.int 5 0,.int 0 0,.ref 27,.int 8 0,.int 0 0,.ref 34,.int 10 0,.int 0 0,.ref 47,.int 14 0,.int 0 0,.ref 66,.int 18 0,.int 0 0,.ref 85,.int 22 0,.int 0 0,.ref 104,.int 26 0,.int 0 0,.ref 123,.int 28 0,.int 0 0,.ref 135,.int 32 0,.int 0 0,.ref 154,.int 34 0,.int 0 0,.ref 166,.int 39 0,.int 0 0,.ref 185,.int 58 0,.int 0 0,.ref 206,.int 63 0,.int 0 0,.ref 213,.int 72 0,.int 0 0,.ref 218,.int 78 0,.int 0 0,.ref 225,.int 83 0,.int 0 0,.ref 232,.int 88 0,.int 0 0,.ref 239,.int 96 0,.int 0 0,.ref 244,.int 98 0,.int 0 0,.ref 251,.int 103 0,.int 0 0,.ref 258,.int 105 0,.int 0 0,.ref 265,.int 114 0,.int 0 0,.ref 272,.int 116 0,.int 0 0,.ref 279,.int 118 0,.int 0 0,.ref 284,.int 120 0,.int 0 0,.ref 289,.int 122 0,.int 0 0,.ref 296,.int 125 0,.int 0 0,.ref 303,.int 161 0,.int 0 0,.ref 359,.int 165 0,.int 0 0,.ref 366,.int 168 0,.int 0 0,.ref 373,.int 201 0,.int 0 0,.ref 429,.int 314 0,.int 0 0,.ref 570,.int 336 0,.int 0 0,.ref 633,.int 346 0,.int 0 0,.ref 666,.int 359 0,.int 0 0,.ref 706,.int 372 0,.int 0 0,.ref 746,.int 382 0,.int 0 0,.ref 779,.int 392 0,.int 0 0,.ref 812,.int 399 0,.int 0 0,.ref 838,.int 407 0,.int 0 0,.ref 864,.int 449 0,.int 0 0,.ref 918,.int 451 0,.int 0 0,.ref 925,.int 456 0,.int 0 0,.ref 932,.int 551 0,.int 0 0,.ref 1035,.int 553 0,.int 0 0,.ref 1042,.int 557 0,.int 0 0,.ref 1049,.int 559 0,.int 0 0,.ref 1054,.int 561 0,.int 0 0,.ref 1061,.int 567 0,.int 0 0,.ref 1068,.int 594 0,.int 0 0,.ref 1109,.int 596 0,.int 0 0,.ref 1116,.int 602 0,.int 0 0,.ref 1123,.int 606 0,.int 0 0,.ref 1128,.int 608 0,.int 0 0,.ref 1135,.int 610 0,.int 0 0,.ref 1142,.int 712 0,.int 0 0,.ref 1262,.int 720 0,.int 0 0,.ref 1267,.int 722 0,.int 0 0,.ref 1274,.int 724 0,.int 0 0,.ref 1281,.int 740 0,.int 0 0,.ref 1300,.int 744 0,.int 0 0,.ref 1307,.int 747 0,.int 0 0,.ref 1312,.int 752 0,.int 0 0,.ref 1319,.int 763 0,.int 0 0,.ref 1326,.int 774 0,.int 0 0,.ref 1333,.int 780 0,.int 0 0,.ref 1340,.int 787 0,.int 0 0,.ref 1347,.int 802 0,.int 0 0,.ref 1352]
abbrev lt (k:Nat):Ob:=⟨.none,none,.fields ⟨ltl.take k⟩,#[]⟩
noncomputable abbrev zb (n:Nat):Ob:=⟨.type "builtin_function_or_method",none,.fields #[.builtin "object.__init_subclass__",.ref n],#[]⟩
noncomputable abbrev zs (n:Nat):Ob:=⟨.type "super",none,.fields #[.ref n,.ref n,.ref n],#[]⟩
noncomputable abbrev zf (a b c:Nat) (m:String) (k d:Nat):Ob:=⟨.type "frame",none,.plain,#[some (.ref a),some (.ref b),some (.ref c),none,some (q m k),none,some (.ref d)]⟩
noncomputable abbrev zi (i j:Nat):Stmt:=inClass (top i) j
noncomputable abbrev zn (a b:Int) (c:Nat):Ob:=⟨.none,none,.fields #[.int a 0,.int b 0,.ref c],#[]⟩
noncomputable abbrev zm (P:Params) (a:Nat) (m:String) (b:Nat):DictEntry:=den P "__module__" a (q m b)
noncomputable abbrev zq (P:Params) (a:Nat) (m:String) (b:Nat):DictEntry:=den P "__qualname__" a (q m b)
noncomputable abbrev zl (P:Params) (a:Nat) (m:Int) (b:Nat):DictEntry:=den P "__firstlineno__" a (.int m b)
noncomputable abbrev za (P:Params) (a b:Nat):DictEntry:=den P "__static_attributes__" a (.ref b)
noncomputable abbrev zd (x:Array DictEntry) (n:Nat):Ob:=⟨.type "dict",none,.dict x n,#[]⟩
abbrev sO (x:String):Str:=Str.ofString x
def au:Ob:=tp []
def bB:Ob:=⟨.none,none,.fields #[],#[]⟩
def o13:Ob:=cd "<module>" 182 "<module>" 183 184 1 0 0 0 0 11 false 181 12 .none .none .none .none 185 186
def o14:Ob:=zf 13 3 3 "__main__" 164 0
def o15(P:Pm):Ob:=md P (q "slowroad.errors" 205) 12 13
def o16:Ob:=lt 12
def o19:Ob:=tp [q "k" 190]
def o21:Ob:=f0 "_wall" "_wall" (top 0)
def o22:Ob:=cd "_wall" 187 "_wall" 188 189 1 1 0 0 3 15 true 181 16 .none (.ref 17) (.ref 18) (.ref 19) 191 192
def o23:Ob:=f1 "_wall" "_wall" (top 0) 3 (q "__main__" 164) 20
def o26:Ob:=tp [q "value" 199,q "low" 200,q "high" 201]
def o28:Ob:=f0 "is_from" "is_from" (top 2)
def o29:Ob:=cd "is_from" 196 "is_from" 197 198 5 3 0 0 3 22 true 181 23 .none (.ref 24) (.ref 25) (.ref 26) 202 203
def o30:Ob:=f1 "is_from" "is_from" (top 2) 3 (q "slowroad.bounds" 194) 27
def o31:Ob:=tp [.type "ValueError"]
def wa:Ob:=⟨.type "builtin_function_or_method",none,.fields #[.builtin "type.__prepare__",.type "type"],#[]⟩
def o33(P:Pm):Ob:=zd #[zm P 214 "slowroad.errors" 205,zq P 216 "RoadError" 215,zl P 218 8 217,za P 219 36] 4
def o36:Ob:=cd "RoadError" 209 "RoadError" 210 211 8 0 0 0 0 32 false 181 33 .none .none .none .none 212 213
def o37:Ob:=zf 34 3 31 "slowroad.errors" 205 0
def o39(P:Pm):Ob:=zd #[zm P 214 "slowroad.errors" 205,zl P 218 8 217,za P 219 36,den P "__weakref__" 221 (.ref 39),den P "__doc__" 222 .none] 3
def o40:Ob:=⟨.type "type",none,.cls (.mk (sO "RoadError") [.type "ValueError"] [.ref 38,.type "ValueError",.type "Exception",.type "BaseException",.type "object"] 37 (sO "RoadError") true [] [.ref 58] false none false),#[some (.ref 29),none,some (q "RoadError" 207),some (q "RoadError" 215),some (.builtin "ValueError.__new__"),some (.bool true)]⟩
def o41:Ob:=⟨.type "getset_descriptor",none,.fields #[q "__weakref__" 220,.ref 38,.builtin "ExceptionGroup.__weakref__",.none],#[]⟩
def o42:Ob:=zs 38
def o43:Ob:=zb 38
def Cc:Ob:=tp [.ref 38]
def o46(P:Pm):Ob:=zd #[zm P 232 "slowroad.errors" 205,zq P 234 "NoFrame" 233,zl P 236 10 235,den P "__init__" 244 (.ref 55),za P 246 56] 5
def o48:Ob:=zn 12 4 54
def o49:Ob:=cd "NoFrame" 227 "NoFrame" 228 229 10 0 0 0 0 45 false 181 46 .none .none .none .none 230 231
def o50:Ob:=zf 47 3 44 "slowroad.errors" 205 0
def o53:Ob:=tp [q "self" 240,q "frame" 241]
def o55:Ob:=f0 "__init__" "NoFrame.__init__" (zi 5 0)
def o56:Ob:=cd "__init__" 237 "NoFrame.__init__" 238 239 12 2 0 0 3 49 true 181 50 .none (.ref 51) (.ref 52) (.ref 53) 242 243
def o57:Ob:=f1 "__init__" "NoFrame.__init__" (zi 5 0) 3 (q "slowroad.errors" 205) 54
def o58:Ob:=tp [q "frame" 245]
def o59(P:Pm):Ob:=zd #[zm P 232 "slowroad.errors" 205,zl P 236 10 235,den P "__init__" 244 (.ref 55),za P 246 56,den P "__doc__" 247 .none] 2
def o60:Ob:=⟨.type "type",none,.cls (.mk (sO "NoFrame") [.ref 38] [.ref 58,.ref 38,.type "ValueError",.type "Exception",.type "BaseException",.type "object"] 57 (sO "NoFrame") true [] [] false none false),#[some (.ref 42),none,some (q "NoFrame" 225),some (q "NoFrame" 233),some (.builtin "ValueError.__new__"),some (.bool true)]⟩
def o61:Ob:=zs 58
def o62:Ob:=zb 58
def o63(P:Pm):Ob:=md P (q "slowroad.errors" 205) 14 15
def o64:Ob:=lt 18
def o65:Ob:=⟨.type "type",none,.cls (.mk (sO "RoadError") [.type "ValueError"] [.ref 38,.type "ValueError",.type "Exception",.type "BaseException",.type "object"] 37 (sO "RoadError") true [] [.ref 58,.ref 77,.ref 96] false none false),#[some (.ref 29),none,some (q "RoadError" 207),some (q "RoadError" 215),some (.builtin "ValueError.__new__"),some (.bool true)]⟩
def o68(P:Pm):Ob:=zd #[zm P 257 "slowroad.errors" 205,zq P 259 "Spoilt" 258,zl P 261 14 260,den P "__init__" 269 (.ref 74),za P 271 75] 5
def o70:Ob:=zn 16 4 73
def o71:Ob:=cd "Spoilt" 252 "Spoilt" 253 254 14 0 0 0 0 64 false 181 65 .none .none .none .none 255 256
def o72:Ob:=zf 66 3 63 "slowroad.errors" 205 0
def o75:Ob:=tp [q "self" 265,q "frame" 266]
def o77:Ob:=f0 "__init__" "Spoilt.__init__" (zi 6 0)
def o78:Ob:=cd "__init__" 262 "Spoilt.__init__" 263 264 16 2 0 0 3 68 true 181 69 .none (.ref 70) (.ref 71) (.ref 72) 267 268
def o79:Ob:=f1 "__init__" "Spoilt.__init__" (zi 6 0) 3 (q "slowroad.errors" 205) 73
def o80:Ob:=tp [q "frame" 270]
def o81(P:Pm):Ob:=zd #[zm P 257 "slowroad.errors" 205,zl P 261 14 260,den P "__init__" 269 (.ref 74),za P 271 75,den P "__doc__" 272 .none] 2
def o82:Ob:=⟨.type "type",none,.cls (.mk (sO "Spoilt") [.ref 38] [.ref 77,.ref 38,.type "ValueError",.type "Exception",.type "BaseException",.type "object"] 76 (sO "Spoilt") true [] [] false none false),#[some (.ref 61),none,some (q "Spoilt" 250),some (q "Spoilt" 258),some (.builtin "ValueError.__new__"),some (.bool true)]⟩
def o83:Ob:=zs 77
def o84:Ob:=zb 77
def o87(P:Pm):Ob:=zd #[zm P 282 "slowroad.errors" 205,zq P 284 "NoPiece" 283,zl P 286 18 285,den P "__init__" 294 (.ref 93),za P 296 94] 5
def o89:Ob:=zn 20 4 92
def o90:Ob:=cd "NoPiece" 277 "NoPiece" 278 279 18 0 0 0 0 83 false 181 84 .none .none .none .none 280 281
def o91:Ob:=zf 85 3 82 "slowroad.errors" 205 0
def o94:Ob:=tp [q "self" 290,q "what" 291]
def o96:Ob:=f0 "__init__" "NoPiece.__init__" (zi 7 0)
def o97:Ob:=cd "__init__" 287 "NoPiece.__init__" 288 289 20 2 0 0 3 87 true 181 88 .none (.ref 89) (.ref 90) (.ref 91) 292 293
def o98:Ob:=f1 "__init__" "NoPiece.__init__" (zi 7 0) 3 (q "slowroad.errors" 205) 92
def o99:Ob:=tp [q "what" 295]
def ZY(P:Pm):Ob:=zd #[zm P 282 "slowroad.errors" 205,zl P 286 18 285,den P "__init__" 294 (.ref 93),za P 296 94,den P "__doc__" 297 .none] 2
def ZW:Ob:=⟨.type "type",none,.cls (.mk (sO "NoPiece") [.ref 38] [.ref 96,.ref 38,.type "ValueError",.type "Exception",.type "BaseException",.type "object"] 95 (sO "NoPiece") true [] [] false none false),#[some (.ref 80),none,some (q "NoPiece" 275),some (q "NoPiece" 283),some (.builtin "ValueError.__new__"),some (.bool true)]⟩
def afs:Ob:=zs 96
def afr:Ob:=zb 96
def afq(P:Pm):Ob:=md P (q "slowroad.errors" 205) 16 17
def afp:Ob:=lt 24
def afo:Ob:=⟨.type "type",none,.cls (.mk (sO "RoadError") [.type "ValueError"] [.ref 38,.type "ValueError",.type "Exception",.type "BaseException",.type "object"] 37 (sO "RoadError") true [] [.ref 58,.ref 77,.ref 96,.ref 115,.ref 127] false none false),#[some (.ref 29),none,some (q "RoadError" 207),some (q "RoadError" 215),some (.builtin "ValueError.__new__"),some (.bool true)]⟩
def afn(P:Pm):Ob:=zd #[zm P 307 "slowroad.errors" 205,zq P 309 "BadRoad" 308,zl P 311 22 310,den P "__init__" 319 (.ref 112),za P 321 113] 5
def afm:Ob:=zn 24 4 111
def afl:Ob:=cd "BadRoad" 302 "BadRoad" 303 304 22 0 0 0 0 102 false 181 103 .none .none .none .none 305 306
def afk:Ob:=zf 104 3 101 "slowroad.errors" 205 0
def Zr:Ob:=tp [q "self" 315,q "at" 316]
def afj:Ob:=f0 "__init__" "BadRoad.__init__" (zi 8 0)
def Zf:Ob:=cd "__init__" 312 "BadRoad.__init__" 313 314 24 2 0 0 3 106 true 181 107 .none (.ref 108) (.ref 109) (.ref 110) 317 318
def Zc:Ob:=f1 "__init__" "BadRoad.__init__" (zi 8 0) 3 (q "slowroad.errors" 205) 111
def Za:Ob:=tp [q "at" 320]
def Y9(P:Pm):Ob:=zd #[zm P 307 "slowroad.errors" 205,zl P 311 22 310,den P "__init__" 319 (.ref 112),za P 321 113,den P "__doc__" 322 .none] 2
def Y6:Ob:=⟨.type "type",none,.cls (.mk (sO "BadRoad") [.ref 38] [.ref 115,.ref 38,.type "ValueError",.type "Exception",.type "BaseException",.type "object"] 114 (sO "BadRoad") true [] [] false none false),#[some (.ref 99),none,some (q "BadRoad" 300),some (q "BadRoad" 308),some (.builtin "ValueError.__new__"),some (.bool true)]⟩
def afi:Ob:=zs 115
def afh:Ob:=zb 115
def afg(P:Pm):Ob:=zd #[zm P 332 "slowroad.errors" 205,zq P 334 "BadTerms" 333,zl P 336 26 335,za P 337 125] 4
def aff:Ob:=cd "BadTerms" 327 "BadTerms" 328 329 26 0 0 0 0 121 false 181 122 .none .none .none .none 330 331
def afe:Ob:=zf 123 3 120 "slowroad.errors" 205 0
def YI(P:Pm):Ob:=zd #[zm P 332 "slowroad.errors" 205,zl P 336 26 335,za P 337 125,den P "__doc__" 338 .none] 2
def YF:Ob:=⟨.type "type",none,.cls (.mk (sO "BadTerms") [.ref 38] [.ref 127,.ref 38,.type "ValueError",.type "Exception",.type "BaseException",.type "object"] 126 (sO "BadTerms") true [] [] false none false),#[some (.ref 118),none,some (q "BadTerms" 325),some (q "BadTerms" 333),some (.builtin "ValueError.__new__"),some (.bool true)]⟩
def afd:Ob:=zs 127
def afc:Ob:=zb 127
def afb(P:Pm):Ob:=md P (q "slowroad.errors" 205) 18 19
def afa:Ob:=lt 30
def ae_:Ob:=⟨.type "type",none,.cls (.mk (sO "RoadError") [.type "ValueError"] [.ref 38,.type "ValueError",.type "Exception",.type "BaseException",.type "object"] 37 (sO "RoadError") true [] [.ref 58,.ref 77,.ref 96,.ref 115,.ref 127,.ref 146,.ref 158] false none false),#[some (.ref 29),none,some (q "RoadError" 207),some (q "RoadError" 215),some (.builtin "ValueError.__new__"),some (.bool true)]⟩
def ae9(P:Pm):Ob:=zd #[zm P 348 "slowroad.errors" 205,zq P 350 "NotWide" 349,zl P 352 28 351,den P "__init__" 360 (.ref 143),za P 362 144] 5
def ae8:Ob:=zn 30 4 142
def ae7:Ob:=cd "NotWide" 343 "NotWide" 344 345 28 0 0 0 0 133 false 181 134 .none .none .none .none 346 347
def ae6:Ob:=zf 135 3 132 "slowroad.errors" 205 0
def Yw:Ob:=tp [q "self" 356,q "least" 357]
def ae5:Ob:=f0 "__init__" "NotWide.__init__" (zi 10 0)
def Yv:Ob:=cd "__init__" 353 "NotWide.__init__" 354 355 30 2 0 0 3 137 true 181 138 .none (.ref 139) (.ref 140) (.ref 141) 358 359
def Yu:Ob:=f1 "__init__" "NotWide.__init__" (zi 10 0) 3 (q "slowroad.errors" 205) 142
def Yt:Ob:=tp [q "least" 361]
def Ys(P:Pm):Ob:=zd #[zm P 348 "slowroad.errors" 205,zl P 352 28 351,den P "__init__" 360 (.ref 143),za P 362 144,den P "__doc__" 363 .none] 2
def Yr:Ob:=⟨.type "type",none,.cls (.mk (sO "NotWide") [.ref 38] [.ref 146,.ref 38,.type "ValueError",.type "Exception",.type "BaseException",.type "object"] 145 (sO "NotWide") true [] [] false none false),#[some (.ref 130),none,some (q "NotWide" 341),some (q "NotWide" 349),some (.builtin "ValueError.__new__"),some (.bool true)]⟩
def ae4:Ob:=zs 146
def ae3:Ob:=zb 146
def ae2(P:Pm):Ob:=zd #[zm P 373 "slowroad.errors" 205,zq P 375 "BadText" 374,zl P 377 32 376,za P 378 156] 4
def ae1:Ob:=cd "BadText" 368 "BadText" 369 370 32 0 0 0 0 152 false 181 153 .none .none .none .none 371 372
def ae0:Ob:=zf 154 3 151 "slowroad.errors" 205 0
def Yq(P:Pm):Ob:=zd #[zm P 373 "slowroad.errors" 205,zl P 377 32 376,za P 378 156,den P "__doc__" 379 .none] 2
def Yp:Ob:=⟨.type "type",none,.cls (.mk (sO "BadText") [.ref 38] [.ref 158,.ref 38,.type "ValueError",.type "Exception",.type "BaseException",.type "object"] 157 (sO "BadText") true [] [] false none false),#[some (.ref 149),none,some (q "BadText" 366),some (q "BadText" 374),some (.builtin "ValueError.__new__"),some (.bool true)]⟩
def aeZ:Ob:=zs 158
def aeY:Ob:=zb 158
def aeX(P:Pm):Ob:=md P (q "slowroad.pieces" 434) 36 37
def aeW:Ob:=lt 42
def Yo:Ob:=⟨.type "type",none,.cls (.mk (sO "RoadError") [.type "ValueError"] [.ref 38,.type "ValueError",.type "Exception",.type "BaseException",.type "object"] 37 (sO "RoadError") true [] [.ref 58,.ref 77,.ref 96,.ref 115,.ref 127,.ref 146,.ref 158,.ref 177,.ref 196] false none false),#[some (.ref 29),none,some (q "RoadError" 207),some (q "RoadError" 215),some (.builtin "ValueError.__new__"),some (.bool true)]⟩
def aeV(P:Pm):Ob:=zd #[zm P 389 "slowroad.errors" 205,zq P 391 "NotNow" 390,zl P 393 34 392,den P "__init__" 402 (.ref 174),za P 405 175] 5
def aeU:Ob:=zn 36 4 173
def aeT:Ob:=cd "NotNow" 384 "NotNow" 385 386 34 0 0 0 0 164 false 181 165 .none .none .none .none 387 388
def aeS:Ob:=zf 166 3 163 "slowroad.errors" 205 0
def Yn:Ob:=tp [q "self" 397,q "state" 398,q "wish" 399]
def aeR:Ob:=f0 "__init__" "NotNow.__init__" (zi 12 0)
def Ym:Ob:=cd "__init__" 394 "NotNow.__init__" 395 396 36 3 0 0 3 168 true 181 169 .none (.ref 170) (.ref 171) (.ref 172) 400 401
def Yl:Ob:=f1 "__init__" "NotNow.__init__" (zi 12 0) 3 (q "slowroad.errors" 205) 173
def Yk:Ob:=tp [q "state" 403,q "wish" 404]
def Yj(P:Pm):Ob:=zd #[zm P 389 "slowroad.errors" 205,zl P 393 34 392,den P "__init__" 402 (.ref 174),za P 405 175,den P "__doc__" 406 .none] 2
def Yi:Ob:=⟨.type "type",none,.cls (.mk (sO "NotNow") [.ref 38] [.ref 177,.ref 38,.type "ValueError",.type "Exception",.type "BaseException",.type "object"] 176 (sO "NotNow") true [] [] false none false),#[some (.ref 161),none,some (q "NotNow" 382),some (q "NotNow" 390),some (.builtin "ValueError.__new__"),some (.bool true)]⟩
def aeQ:Ob:=zs 177
def aeP:Ob:=zb 177
def aeO(P:Pm):Ob:=zd #[zm P 416 "slowroad.errors" 205,zq P 418 "BadWish" 417,zl P 420 39 419,den P "__init__" 428 (.ref 193),za P 430 194] 5
def aeN:Ob:=zn 41 4 192
def aeM:Ob:=cd "BadWish" 411 "BadWish" 412 413 39 0 0 0 0 183 false 181 184 .none .none .none .none 414 415
def aeL:Ob:=zf 185 3 182 "slowroad.errors" 205 0
def Yh:Ob:=tp [q "self" 424,q "at" 425]
def aeK:Ob:=f0 "__init__" "BadWish.__init__" (zi 13 0)
def Yg:Ob:=cd "__init__" 421 "BadWish.__init__" 422 423 41 2 0 0 3 187 true 181 188 .none (.ref 189) (.ref 190) (.ref 191) 426 427
def Ye:Ob:=f1 "__init__" "BadWish.__init__" (zi 13 0) 3 (q "slowroad.errors" 205) 192
def Yd:Ob:=tp [q "at" 429]
def Yc(P:Pm):Ob:=zd #[zm P 416 "slowroad.errors" 205,zl P 420 39 419,den P "__init__" 428 (.ref 193),za P 430 194,den P "__doc__" 431 .none] 2
def Yb:Ob:=⟨.type "type",none,.cls (.mk (sO "BadWish") [.ref 38] [.ref 196,.ref 38,.type "ValueError",.type "Exception",.type "BaseException",.type "object"] 195 (sO "BadWish") true [] [] false none false),#[some (.ref 180),none,some (q "BadWish" 409),some (q "BadWish" 417),some (.builtin "ValueError.__new__"),some (.bool true)]⟩
def aeJ:Ob:=zs 196
def aeI:Ob:=zb 196
def X_:Ob:=tp [q "bare" 436,q "signs" 437,q "begin" 438,q "end" 439,q "ask" 440]
def X9:Ob:=tp [q "bare" 444,q "ask" 445]
def X8:Ob:=tp [q "thing" 472,q "kind" 473]
def aeH:Ob:=f0 "is_piece" "is_piece" (top 29)
def X7:Ob:=cd "is_piece" 469 "is_piece" 470 471 58 1 0 0 3 201 true 181 202 .none (.ref 203) (.ref 204) (.ref 205) 474 475
def X6:Ob:=f1 "is_piece" "is_piece" (top 29) 3 (q "slowroad.pieces" 434) 206
def X4:Ob:=tp [q "held" 480,q "last" 481,q "step" 482]
def aeG:Ob:=f0 "is_held" "is_held" (top 30)
def X0:Ob:=cd "is_held" 477 "is_held" 478 479 63 1 0 0 3 208 true 181 209 .none (.ref 210) (.ref 211) (.ref 212) 483 484
def XZ:Ob:=f1 "is_held" "is_held" (top 30) 3 (q "slowroad.pieces" 434) 213
def aeF(P:Pm):Ob:=md P (q "slowroad.meter" 579) 49 50
def aeE:Ob:=lt 81
def aeD:Ob:=f0 "are_signs" "are_signs" (top 31)
def XY:Ob:=cd "are_signs" 486 "are_signs" 487 488 72 2 0 0 3 215 true 181 216 .none .none .none (.ref 217) 489 490
def XX:Ob:=f1 "are_signs" "are_signs" (top 31) 3 (q "slowroad.pieces" 434) 218
def XW:Ob:=tp [q "bits" 495,q "left" 496]
def aeC:Ob:=f0 "remainder" "remainder" (top 32)
def XU:Ob:=cd "remainder" 492 "remainder" 493 494 78 1 0 0 3 220 true 181 221 .none (.ref 222) (.ref 223) (.ref 224) 497 498
def XT:Ob:=f1 "remainder" "remainder" (top 32) 3 (q "slowroad.pieces" 434) 225
def XS:Ob:=tp [q "piece" 503,q "unchecked" 504]
def aeB:Ob:=f0 "written" "written" (top 33)
def XR:Ob:=cd "written" 500 "written" 501 502 83 1 0 0 3 227 true 181 228 .none (.ref 229) (.ref 230) (.ref 231) 505 506
def XQ:Ob:=f1 "written" "written" (top 33) 3 (q "slowroad.pieces" 434) 232
def XO:Ob:=tp [q "piece" 511,q "body" 512]
def aeA:Ob:=f0 "body_of" "body_of" (top 34)
def XN:Ob:=cd "body_of" 508 "body_of" 509 510 88 1 0 0 3 234 true 181 235 .none (.ref 236) (.ref 237) (.ref 238) 513 514
def XM:Ob:=f1 "body_of" "body_of" (top 34) 3 (q "slowroad.pieces" 434) 239
def aez:Ob:=f0 "bits_of_held" "bits_of_held" (top 35)
def XJ:Ob:=cd "bits_of_held" 516 "bits_of_held" 517 518 96 1 0 0 3 241 true 181 242 .none .none .none (.ref 243) 519 520
def XI:Ob:=f1 "bits_of_held" "bits_of_held" (top 35) 3 (q "slowroad.pieces" 434) 244
def XH:Ob:=tp [q "signs" 525,q "bits" 526,q "sign" 527]
def aey:Ob:=f0 "bits_of_signs" "bits_of_signs" (top 36)
def XG:Ob:=cd "bits_of_signs" 522 "bits_of_signs" 523 524 98 1 0 0 3 246 true 181 247 .none (.ref 248) (.ref 249) (.ref 250) 528 529
def XF:Ob:=f1 "bits_of_signs" "bits_of_signs" (top 36) 3 (q "slowroad.pieces" 434) 251
def XE:Ob:=tp [q "number" 534]
def aex:Ob:=f0 "is_frame" "is_frame" (top 37)
def XD:Ob:=cd "is_frame" 531 "is_frame" 532 533 103 1 0 0 3 253 true 181 254 .none (.ref 255) (.ref 256) (.ref 257) 535 536
def XC:Ob:=f1 "is_frame" "is_frame" (top 37) 3 (q "slowroad.pieces" 434) 258
def XB:Ob:=tp [q "frame" 541,q "piece" 542]
def aew:Ob:=f0 "read" "read" (top 38)
def XA:Ob:=cd "read" 538 "read" 539 540 105 1 0 0 3 260 true 181 261 .none (.ref 262) (.ref 263) (.ref 264) 543 544
def Xz:Ob:=f1 "read" "read" (top 38) 3 (q "slowroad.pieces" 434) 265
def Xy:Ob:=tp [q "body" 549]
def aev:Ob:=f0 "likely_piece" "likely_piece" (top 39)
def Xx:Ob:=cd "likely_piece" 546 "likely_piece" 547 548 114 1 0 0 3 267 true 181 268 .none (.ref 269) (.ref 270) (.ref 271) 550 551
def Xw:Ob:=f1 "likely_piece" "likely_piece" (top 39) 3 (q "slowroad.pieces" 434) 272
def Xv:Ob:=tp [q "code" 556]
def aeu:Ob:=f0 "kind_of" "kind_of" (top 40)
def Xu:Ob:=cd "kind_of" 553 "kind_of" 554 555 116 1 0 0 3 274 true 181 275 .none (.ref 276) (.ref 277) (.ref 278) 557 558
def Xs:Ob:=f1 "kind_of" "kind_of" (top 40) 3 (q "slowroad.pieces" 434) 279
def aet:Ob:=f0 "held_of" "held_of" (top 41)
def Xr:Ob:=cd "held_of" 560 "held_of" 561 562 118 1 0 0 3 281 true 181 282 .none .none .none (.ref 283) 563 564
def Xq:Ob:=f1 "held_of" "held_of" (top 41) 3 (q "slowroad.pieces" 434) 284
def aes:Ob:=f0 "signs_of" "signs_of" (top 42)
def Xp:Ob:=cd "signs_of" 566 "signs_of" 567 568 120 1 0 0 3 286 true 181 287 .none .none .none (.ref 288) 569 570
def Xo:Ob:=f1 "signs_of" "signs_of" (top 42) 3 (q "slowroad.pieces" 434) 289
def Xn:Ob:=tp [q "code" 575]
def aer:Ob:=f0 "sign_of" "sign_of" (top 43)
def Xm:Ob:=cd "sign_of" 572 "sign_of" 573 574 122 1 0 0 3 291 true 181 292 .none (.ref 293) (.ref 294) (.ref 295) 576 577
def Xl:Ob:=f1 "sign_of" "sign_of" (top 43) 3 (q "slowroad.pieces" 434) 296
def aeq(P:Pm):Ob:=md P (q "slowroad.ways" 661) 53 54
def aep:Ob:=lt 90
def aeo(P:Pm):Ob:=zd #[zm P 588 "slowroad.meter" 579,zq P 590 "Meter" 589,zl P 592 125 591,den P "__init__" 600 (.ref 311),den P "known" 609 (.ref 318),den P "know_one" 616 (.ref 325),den P "half" 623 (.ref 332),den P "ran_out" 630 (.ref 339),den P "hurried" 637 (.ref 346),za P 642 347] 10
def aen:Ob:=⟨.none,none,.fields #[.int 127 0,.int 4 0,.ref 310,.int 133 0,.int 4 0,.ref 317,.int 137 0,.int 4 0,.ref 324,.int 148 0,.int 4 0,.ref 331,.int 151 0,.int 4 0,.ref 338,.int 156 0,.int 4 0,.ref 345],#[]⟩
def aem:Ob:=cd "Meter" 583 "Meter" 584 585 125 0 0 0 0 301 false 181 302 .none .none .none .none 586 587
def ael:Ob:=zf 303 3 300 "slowroad.meter" 579 0
def Xk:Ob:=tp [q "self" 596,q "most" 597]
def aek:Ob:=f0 "__init__" "Meter.__init__" (zi 45 0)
def Xj:Ob:=cd "__init__" 593 "Meter.__init__" 594 595 127 2 0 0 3 305 true 181 306 .none (.ref 307) (.ref 308) (.ref 309) 598 599
def Xi:Ob:=f1 "__init__" "Meter.__init__" (zi 45 0) 3 (q "slowroad.meter" 579) 310
def Xh:Ob:=tp [q "self" 604,q "many" 605,q "piece" 606]
def aej:Ob:=f0 "known" "Meter.known" (zi 45 1)
def Xg:Ob:=cd "known" 601 "Meter.known" 602 603 133 2 0 0 3 312 true 181 313 .none (.ref 314) (.ref 315) (.ref 316) 607 608
def Xf:Ob:=f1 "known" "Meter.known" (zi 45 1) 3 (q "slowroad.meter" 579) 317
def Xe:Ob:=tp [q "self" 613]
def aei:Ob:=f0 "know_one" "Meter.know_one" (zi 45 2)
def Xd:Ob:=cd "know_one" 610 "Meter.know_one" 611 612 137 1 0 0 3 319 true 181 320 .none (.ref 321) (.ref 322) (.ref 323) 614 615
def Xc:Ob:=f1 "know_one" "Meter.know_one" (zi 45 2) 3 (q "slowroad.meter" 579) 324
def Xb:Ob:=tp [q "self" 620]
def aeh:Ob:=f0 "half" "Meter.half" (zi 45 3)
def Xa:Ob:=cd "half" 617 "Meter.half" 618 619 148 1 0 0 3 326 true 181 327 .none (.ref 328) (.ref 329) (.ref 330) 621 622
def W_:Ob:=f1 "half" "Meter.half" (zi 45 3) 3 (q "slowroad.meter" 579) 331
def W9:Ob:=tp [q "self" 627]
def aeg:Ob:=f0 "ran_out" "Meter.ran_out" (zi 45 4)
def W8:Ob:=cd "ran_out" 624 "Meter.ran_out" 625 626 151 1 0 0 3 333 true 181 334 .none (.ref 335) (.ref 336) (.ref 337) 628 629
def W7:Ob:=f1 "ran_out" "Meter.ran_out" (zi 45 4) 3 (q "slowroad.meter" 579) 338
def W6:Ob:=tp [q "self" 634]
def aef:Ob:=f0 "hurried" "Meter.hurried" (zi 45 5)
def W5:Ob:=cd "hurried" 631 "Meter.hurried" 632 633 156 1 0 0 3 340 true 181 341 .none (.ref 342) (.ref 343) (.ref 344) 635 636
def W4:Ob:=f1 "hurried" "Meter.hurried" (zi 45 5) 3 (q "slowroad.meter" 579) 345
def W3:Ob:=tp [q "counted" 638,q "knee" 639,q "most" 640,q "window" 641]
def W2(P:Pm):Ob:=zd #[zm P 588 "slowroad.meter" 579,zl P 592 125 591,den P "__init__" 600 (.ref 311),den P "known" 609 (.ref 318),den P "know_one" 616 (.ref 325),den P "half" 623 (.ref 332),den P "ran_out" 630 (.ref 339),den P "hurried" 637 (.ref 346),za P 642 347,den P "__dict__" 644 (.ref 350),den P "__weakref__" 646 (.ref 351),den P "__doc__" 647 .none] 4
def W0:Ob:=⟨.type "type",none,.cls (.mk (sO "Meter") [.type "object"] [.ref 349,.type "object"] 348 (sO "Meter") true [] [] false none false),#[none,none,some (q "Meter" 581),some (q "Meter" 589),some (.builtin "object.__new__"),some (.bool true)]⟩
def WZ:Ob:=⟨.type "getset_descriptor",none,.fields #[q "__dict__" 643,.ref 349,.builtin "function.__dict__",.builtin "function.__dict__#set"],#[]⟩
def WY:Ob:=⟨.type "getset_descriptor",none,.fields #[q "__weakref__" 645,.ref 349,.builtin "ExceptionGroup.__weakref__",.none],#[]⟩
def aee:Ob:=zs 349
def aed:Ob:=zb 349
def WX:Ob:=tp [q "ring" 655,q "one" 656,q "other" 657]
def aec:Ob:=f0 "ahead" "ahead" (top 47)
def WW:Ob:=cd "ahead" 652 "ahead" 653 654 161 3 0 0 3 354 true 181 355 .none (.ref 356) (.ref 357) (.ref 358) 658 659
def WV:Ob:=f1 "ahead" "ahead" (top 47) 3 (q "slowroad.rings" 650) 359
def WU:Ob:=tp [q "top" 668,q "bottom" 669,q "shared" 670]
def aeb:Ob:=f0 "lowest" "lowest" (top 50)
def WT:Ob:=cd "lowest" 665 "lowest" 666 667 165 2 0 0 3 361 true 181 362 .none (.ref 363) (.ref 364) (.ref 365) 671 672
def WR:Ob:=f1 "lowest" "lowest" (top 50) 3 (q "slowroad.ways" 661) 366
def aea(P:Pm):Ob:=md P (q "slowroad.sender" 748) 55 56
def ad_:Ob:=lt 93
def ad9(P:Pm):Ob:=zd #[zm P 681 "slowroad.ways" 661,zq P 683 "Ways" 682,zl P 685 168 684,den P "__init__" 694 (.ref 381),den P "measured" 702 (.ref 388),den P "next_spread" 712 (.ref 395),den P "next_smooth" 720 (.ref 402),den P "least_wait" 728 (.ref 409),den P "ran_out" 735 (.ref 416),za P 740 417] 10
def ad8:Ob:=⟨.none,none,.fields #[.int 170 0,.int 4 0,.ref 380,.int 176 0,.int 4 0,.ref 387,.int 185 0,.int 4 0,.ref 394,.int 190 0,.int 4 0,.ref 401,.int 193 0,.int 4 0,.ref 408,.int 197 0,.int 4 0,.ref 415],#[]⟩
def ad7:Ob:=cd "Ways" 676 "Ways" 677 678 168 0 0 0 0 371 false 181 372 .none .none .none .none 679 680
def ad6:Ob:=zf 373 3 370 "slowroad.ways" 661 0
def WQ:Ob:=tp [q "self" 689,q "first" 690,q "longest" 691]
def ad5:Ob:=f0 "__init__" "Ways.__init__" (zi 51 0)
def WO:Ob:=cd "__init__" 686 "Ways.__init__" 687 688 170 3 0 0 3 375 true 181 376 .none (.ref 377) (.ref 378) (.ref 379) 692 693
def WN:Ob:=f1 "__init__" "Ways.__init__" (zi 51 0) 3 (q "slowroad.ways" 661) 380
def WM:Ob:=tp [q "self" 698,q "m" 699]
def ad4:Ob:=f0 "measured" "Ways.measured" (zi 51 1)
def WL:Ob:=cd "measured" 695 "Ways.measured" 696 697 176 2 0 0 3 382 true 181 383 .none (.ref 384) (.ref 385) (.ref 386) 700 701
def WK:Ob:=f1 "measured" "Ways.measured" (zi 51 1) 3 (q "slowroad.ways" 661) 387
def WJ:Ob:=tp [q "self" 706,q "m" 707,q "bottoms" 708,q "away" 709]
def ad3:Ob:=f0 "next_spread" "Ways.next_spread" (zi 51 2)
def WI:Ob:=cd "next_spread" 703 "Ways.next_spread" 704 705 185 2 0 0 3 389 true 181 390 .none (.ref 391) (.ref 392) (.ref 393) 710 711
def WH:Ob:=f1 "next_spread" "Ways.next_spread" (zi 51 2) 3 (q "slowroad.ways" 661) 394
def WG:Ob:=tp [q "self" 716,q "m" 717]
def ad2:Ob:=f0 "next_smooth" "Ways.next_smooth" (zi 51 3)
def WE:Ob:=cd "next_smooth" 713 "Ways.next_smooth" 714 715 190 2 0 0 3 396 true 181 397 .none (.ref 398) (.ref 399) (.ref 400) 718 719
def WD:Ob:=f1 "next_smooth" "Ways.next_smooth" (zi 51 3) 3 (q "slowroad.ways" 661) 401
def WC:Ob:=tp [q "self" 724,q "top" 725]
def ad1:Ob:=f0 "least_wait" "Ways.least_wait" (zi 51 4)
def WB:Ob:=cd "least_wait" 721 "Ways.least_wait" 722 723 193 1 0 0 3 403 true 181 404 .none (.ref 405) (.ref 406) (.ref 407) 726 727
def Wz:Ob:=f1 "least_wait" "Ways.least_wait" (zi 51 4) 3 (q "slowroad.ways" 661) 408
def Wy:Ob:=tp [q "self" 732]
def ad0:Ob:=f0 "ran_out" "Ways.ran_out" (zi 51 5)
def Wx:Ob:=cd "ran_out" 729 "Ways.ran_out" 730 731 197 1 0 0 3 410 true 181 411 .none (.ref 412) (.ref 413) (.ref 414) 733 734
def Wv:Ob:=f1 "ran_out" "Ways.ran_out" (zi 51 5) 3 (q "slowroad.ways" 661) 415
def Wu:Ob:=tp [q "longest" 736,q "smooth" 737,q "spread" 738,q "wait" 739]
def Wt(P:Pm):Ob:=zd #[zm P 681 "slowroad.ways" 661,zl P 685 168 684,den P "__init__" 694 (.ref 381),den P "measured" 702 (.ref 388),den P "next_spread" 712 (.ref 395),den P "next_smooth" 720 (.ref 402),den P "least_wait" 728 (.ref 409),den P "ran_out" 735 (.ref 416),za P 740 417,den P "__dict__" 742 (.ref 420),den P "__weakref__" 744 (.ref 421),den P "__doc__" 745 .none] 4
def Wr:Ob:=⟨.type "type",none,.cls (.mk (sO "Ways") [.type "object"] [.ref 419,.type "object"] 418 (sO "Ways") true [] [] false none false),#[none,none,some (q "Ways" 674),some (q "Ways" 682),some (.builtin "object.__new__"),some (.bool true)]⟩
def Wq:Ob:=⟨.type "getset_descriptor",none,.fields #[q "__dict__" 741,.ref 419,.builtin "function.__dict__",.builtin "function.__dict__#set"],#[]⟩
def Wo:Ob:=⟨.type "getset_descriptor",none,.fields #[q "__weakref__" 743,.ref 419,.builtin "ExceptionGroup.__weakref__",.none],#[]⟩
def adZ:Ob:=zs 419
def adY:Ob:=zb 419
def adX(P:Pm):Ob:=md P (q "slowroad.sender" 748) 56 57
def adW:Ob:=lt 96
def adV(P:Pm):Ob:=zd #[zm P 759 "slowroad.sender" 748,zq P 761 "Sender" 760,zl P 763 201 762,den P "__init__" 774 (.ref 437),den P "put" 782 (.ref 444),den P "many" 789 (.ref 451),den P "thing" 797 (.ref 458),den P "heard" 811 (.ref 465),den P "grow_base" 820 (.ref 472),den P "note_held" 826 (.ref 477),den P "newly_known" 832 (.ref 482),den P "known_above_base" 838 (.ref 487),den P "under_way" 845 (.ref 494),den P "thing_waits" 852 (.ref 501),den P "clock_is_out" 860 (.ref 508),den P "hurry_is_due" 867 (.ref 515),den P "new_may_go" 874 (.ref 522),den P "go" 882 (.ref 529),den P "set_clock" 890 (.ref 536),den P "go_again" 898 (.ref 543),den P "go_new" 907 (.ref 550),den P "ask_for_room" 915 (.ref 557),za P 928 558] 23
def adU:Ob:=⟨.none,none,.fields #[.int 203 0,.int 4 0,.ref 436,.int 217 0,.int 4 0,.ref 443,.int 220 0,.int 4 0,.ref 450,.int 223 0,.int 4 0,.ref 457,.int 226 0,.int 4 0,.ref 464,.int 241 0,.int 4 0,.ref 471,.int 246 0,.int 4 0,.ref 476,.int 249 0,.int 4 0,.ref 481,.int 255 0,.int 4 0,.ref 486,.int 258 0,.int 4 0,.ref 493,.int 261 0,.int 4 0,.ref 500,.int 264 0,.int 4 0,.ref 507,.int 267 0,.int 4 0,.ref 514,.int 270 0,.int 4 0,.ref 521,.int 273 0,.int 4 0,.ref 528,.int 287 0,.int 4 0,.ref 535,.int 290 0,.int 4 0,.ref 542,.int 296 0,.int 4 0,.ref 549,.int 304 0,.int 4 0,.ref 556],#[]⟩
def adT:Ob:=cd "Sender" 754 "Sender" 755 756 201 0 0 0 0 427 false 181 428 .none .none .none .none 757 758
def adS:Ob:=zf 429 3 426 "slowroad.sender" 748 0
def Wn:Ob:=tp [q "self" 767,q "ring" 768,q "first" 769,q "longest" 770,q "most" 771]
def adR:Ob:=f0 "__init__" "Sender.__init__" (zi 54 0)
def Wm:Ob:=cd "__init__" 764 "Sender.__init__" 765 766 203 5 0 0 3 431 true 181 432 .none (.ref 433) (.ref 434) (.ref 435) 772 773
def Wl:Ob:=f1 "__init__" "Sender.__init__" (zi 54 0) 3 (q "slowroad.sender" 748) 436
def Wk:Ob:=tp [q "self" 778,q "thing" 779]
def adQ:Ob:=f0 "put" "Sender.put" (zi 54 1)
def Wj:Ob:=cd "put" 775 "Sender.put" 776 777 217 2 0 0 3 438 true 181 439 .none (.ref 440) (.ref 441) (.ref 442) 780 781
def Wi:Ob:=f1 "put" "Sender.put" (zi 54 1) 3 (q "slowroad.sender" 748) 443
def Wh:Ob:=tp [q "self" 786]
def adP:Ob:=f0 "many" "Sender.many" (zi 54 2)
def Wf:Ob:=cd "many" 783 "Sender.many" 784 785 220 1 0 0 3 445 true 181 446 .none (.ref 447) (.ref 448) (.ref 449) 787 788
def We:Ob:=f1 "many" "Sender.many" (zi 54 2) 3 (q "slowroad.sender" 748) 450
def Wd:Ob:=tp [q "self" 793,q "place" 794]
def adO:Ob:=f0 "thing" "Sender.thing" (zi 54 3)
def Wc:Ob:=cd "thing" 790 "Sender.thing" 791 792 223 2 0 0 3 452 true 181 453 .none (.ref 454) (.ref 455) (.ref 456) 795 796
def Wa:Ob:=f1 "thing" "Sender.thing" (zi 54 3) 3 (q "slowroad.sender" 748) 457
def V_:Ob:=tp [q "self" 801,q "number" 802,q "room" 803,q "held" 804,q "turn" 805,q "steps" 806,q "fresh" 807,q "place" 808]
def adN:Ob:=f0 "heard" "Sender.heard" (zi 54 4)
def V9:Ob:=cd "heard" 798 "Sender.heard" 799 800 226 5 0 0 3 459 true 181 460 .none (.ref 461) (.ref 462) (.ref 463) 809 810
def V8:Ob:=f1 "heard" "Sender.heard" (zi 54 4) 3 (q "slowroad.sender" 748) 464
def V7:Ob:=tp [q "self" 815,q "steps" 816,q "low" 817]
def adM:Ob:=f0 "grow_base" "Sender.grow_base" (zi 54 5)
def V6:Ob:=cd "grow_base" 812 "Sender.grow_base" 813 814 241 2 0 0 3 466 true 181 467 .none (.ref 468) (.ref 469) (.ref 470) 818 819
def V5:Ob:=f1 "grow_base" "Sender.grow_base" (zi 54 5) 3 (q "slowroad.sender" 748) 471
def adL:Ob:=f0 "note_held" "Sender.note_held" (zi 54 6)
def V4:Ob:=cd "note_held" 821 "Sender.note_held" 822 823 246 2 0 0 3 473 true 181 474 .none .none .none (.ref 475) 824 825
def V3:Ob:=f1 "note_held" "Sender.note_held" (zi 54 6) 3 (q "slowroad.sender" 748) 476
def adK:Ob:=f0 "newly_known" "Sender.newly_known" (zi 54 7)
def V2:Ob:=cd "newly_known" 827 "Sender.newly_known" 828 829 249 2 0 0 3 478 true 181 479 .none .none .none (.ref 480) 830 831
def V1:Ob:=f1 "newly_known" "Sender.newly_known" (zi 54 7) 3 (q "slowroad.sender" 748) 481
def adJ:Ob:=f0 "known_above_base" "Sender.known_above_base" (zi 54 8)
def V0:Ob:=cd "known_above_base" 833 "Sender.known_above_base" 834 835 255 1 0 0 3 483 true 181 484 .none .none .none (.ref 485) 836 837
def VZ:Ob:=f1 "known_above_base" "Sender.known_above_base" (zi 54 8) 3 (q "slowroad.sender" 748) 486
def VY:Ob:=tp [q "self" 842]
def adI:Ob:=f0 "under_way" "Sender.under_way" (zi 54 9)
def VX:Ob:=cd "under_way" 839 "Sender.under_way" 840 841 258 1 0 0 3 488 true 181 489 .none (.ref 490) (.ref 491) (.ref 492) 843 844
def VW:Ob:=f1 "under_way" "Sender.under_way" (zi 54 9) 3 (q "slowroad.sender" 748) 493
def VV:Ob:=tp [q "self" 849]
def adH:Ob:=f0 "thing_waits" "Sender.thing_waits" (zi 54 10)
def VU:Ob:=cd "thing_waits" 846 "Sender.thing_waits" 847 848 261 1 0 0 3 495 true 181 496 .none (.ref 497) (.ref 498) (.ref 499) 850 851
def VT:Ob:=f1 "thing_waits" "Sender.thing_waits" (zi 54 10) 3 (q "slowroad.sender" 748) 500
def VS:Ob:=tp [q "self" 856,q "turn" 857]
def adG:Ob:=f0 "clock_is_out" "Sender.clock_is_out" (zi 54 11)
def VR:Ob:=cd "clock_is_out" 853 "Sender.clock_is_out" 854 855 264 2 0 0 3 502 true 181 503 .none (.ref 504) (.ref 505) (.ref 506) 858 859
def VQ:Ob:=f1 "clock_is_out" "Sender.clock_is_out" (zi 54 11) 3 (q "slowroad.sender" 748) 507
def VP:Ob:=tp [q "self" 864]
def adF:Ob:=f0 "hurry_is_due" "Sender.hurry_is_due" (zi 54 12)
def VO:Ob:=cd "hurry_is_due" 861 "Sender.hurry_is_due" 862 863 267 1 0 0 3 509 true 181 510 .none (.ref 511) (.ref 512) (.ref 513) 865 866
def VN:Ob:=f1 "hurry_is_due" "Sender.hurry_is_due" (zi 54 12) 3 (q "slowroad.sender" 748) 514
def VM:Ob:=tp [q "self" 871]
def adE:Ob:=f0 "new_may_go" "Sender.new_may_go" (zi 54 13)
def VL:Ob:=cd "new_may_go" 868 "Sender.new_may_go" 869 870 270 1 0 0 3 516 true 181 517 .none (.ref 518) (.ref 519) (.ref 520) 872 873
def VJ:Ob:=f1 "new_may_go" "Sender.new_may_go" (zi 54 13) 3 (q "slowroad.sender" 748) 521
def VI:Ob:=tp [q "self" 878,q "turn" 879]
def adD:Ob:=f0 "go" "Sender.go" (zi 54 14)
def VH:Ob:=cd "go" 875 "Sender.go" 876 877 273 2 0 0 3 523 true 181 524 .none (.ref 525) (.ref 526) (.ref 527) 880 881
def VG:Ob:=f1 "go" "Sender.go" (zi 54 14) 3 (q "slowroad.sender" 748) 528
def VF:Ob:=tp [q "self" 886,q "turn" 887]
def adC:Ob:=f0 "set_clock" "Sender.set_clock" (zi 54 15)
def VE:Ob:=cd "set_clock" 883 "Sender.set_clock" 884 885 287 2 0 0 3 530 true 181 531 .none (.ref 532) (.ref 533) (.ref 534) 888 889
def VD:Ob:=f1 "set_clock" "Sender.set_clock" (zi 54 15) 3 (q "slowroad.sender" 748) 535
def VC:Ob:=tp [q "self" 894,q "turn" 895]
def adB:Ob:=f0 "go_again" "Sender.go_again" (zi 54 16)
def VB:Ob:=cd "go_again" 891 "Sender.go_again" 892 893 290 2 0 0 3 537 true 181 538 .none (.ref 539) (.ref 540) (.ref 541) 896 897
def VA:Ob:=f1 "go_again" "Sender.go_again" (zi 54 16) 3 (q "slowroad.sender" 748) 542
def Vz:Ob:=tp [q "self" 902,q "turn" 903,q "place" 904]
def adA:Ob:=f0 "go_new" "Sender.go_new" (zi 54 17)
def Vy:Ob:=cd "go_new" 899 "Sender.go_new" 900 901 296 2 0 0 3 544 true 181 545 .none (.ref 546) (.ref 547) (.ref 548) 905 906
def Vx:Ob:=f1 "go_new" "Sender.go_new" (zi 54 17) 3 (q "slowroad.sender" 748) 549
def Vw:Ob:=tp [q "self" 911,q "turn" 912]
def adz:Ob:=f0 "ask_for_room" "Sender.ask_for_room" (zi 54 18)
def Vv:Ob:=cd "ask_for_room" 908 "Sender.ask_for_room" 909 910 304 2 0 0 3 551 true 181 552 .none (.ref 553) (.ref 554) (.ref 555) 913 914
def Vu:Ob:=f1 "ask_for_room" "Sender.ask_for_room" (zi 54 18) 3 (q "slowroad.sender" 748) 556
def Vt:Ob:=tp [q "base" 916,q "base_hurried" 917,q "clock" 918,q "edge" 919,q "first_turns" 920,q "gone_again" 921,q "known_places" 922,q "meter" 923,q "ring" 924,q "things" 925,q "top" 926,q "ways" 927]
def Vs(P:Pm):Ob:=zd #[zm P 759 "slowroad.sender" 748,zl P 763 201 762,den P "__init__" 774 (.ref 437),den P "put" 782 (.ref 444),den P "many" 789 (.ref 451),den P "thing" 797 (.ref 458),den P "heard" 811 (.ref 465),den P "grow_base" 820 (.ref 472),den P "note_held" 826 (.ref 477),den P "newly_known" 832 (.ref 482),den P "known_above_base" 838 (.ref 487),den P "under_way" 845 (.ref 494),den P "thing_waits" 852 (.ref 501),den P "clock_is_out" 860 (.ref 508),den P "hurry_is_due" 867 (.ref 515),den P "new_may_go" 874 (.ref 522),den P "go" 882 (.ref 529),den P "set_clock" 890 (.ref 536),den P "go_again" 898 (.ref 543),den P "go_new" 907 (.ref 550),den P "ask_for_room" 915 (.ref 557),za P 928 558,den P "__dict__" 930 (.ref 561),den P "__weakref__" 932 (.ref 562),den P "__doc__" 933 .none] 4
def Vr:Ob:=⟨.type "type",none,.cls (.mk (sO "Sender") [.type "object"] [.ref 560,.type "object"] 559 (sO "Sender") true [] [] false none false),#[none,none,some (q "Sender" 752),some (q "Sender" 760),some (.builtin "object.__new__"),some (.bool true)]⟩
def Vq:Ob:=⟨.type "getset_descriptor",none,.fields #[q "__dict__" 929,.ref 560,.builtin "function.__dict__",.builtin "function.__dict__#set"],#[]⟩
def Vp:Ob:=⟨.type "getset_descriptor",none,.fields #[q "__weakref__" 931,.ref 560,.builtin "ExceptionGroup.__weakref__",.none],#[]⟩
def ady:Ob:=zs 560
def adx:Ob:=zb 560
def adw(P:Pm):Ob:=md P (q "slowroad.states" 936) 57 58
def adv:Ob:=lt 99
def adu(P:Pm):Ob:=zd #[zm P 945 "slowroad.states" 936,zq P 947 "State" 946,zl P 949 314 948,den P "name" 956 (.ref 578),den P "wish_begin" 963 (.ref 585),den P "wish_end" 970 (.ref 592),den P "may_put" 977 (.ref 599),den P "begun" 984 (.ref 606),den P "ended" 991 (.ref 613),den P "answered" 998 (.ref 620),za P 999 621] 11
def adt:Ob:=⟨.none,none,.fields #[.int 316 0,.int 4 0,.ref 577,.int 319 0,.int 4 0,.ref 584,.int 322 0,.int 4 0,.ref 591,.int 325 0,.int 4 0,.ref 598,.int 328 0,.int 4 0,.ref 605,.int 331 0,.int 4 0,.ref 612,.int 334 0,.int 4 0,.ref 619],#[]⟩
def ads:Ob:=cd "State" 940 "State" 941 942 314 0 0 0 0 568 false 181 569 .none .none .none .none 943 944
def adq:Ob:=zf 570 3 567 "slowroad.states" 936 0
def Vo:Ob:=tp [q "self" 953]
def adp:Ob:=f0 "name" "State.name" (zi 56 0)
def Vn:Ob:=cd "name" 950 "State.name" 951 952 316 1 0 0 3 572 true 181 573 .none (.ref 574) (.ref 575) (.ref 576) 954 955
def Vm:Ob:=f1 "name" "State.name" (zi 56 0) 3 (q "slowroad.states" 936) 577
def Vl:Ob:=tp [q "self" 960]
def ado:Ob:=f0 "wish_begin" "State.wish_begin" (zi 56 1)
def Vk:Ob:=cd "wish_begin" 957 "State.wish_begin" 958 959 319 1 0 0 3 579 true 181 580 .none (.ref 581) (.ref 582) (.ref 583) 961 962
def Vj:Ob:=f1 "wish_begin" "State.wish_begin" (zi 56 1) 3 (q "slowroad.states" 936) 584
def Vi:Ob:=tp [q "self" 967]
def adn:Ob:=f0 "wish_end" "State.wish_end" (zi 56 2)
def Vh:Ob:=cd "wish_end" 964 "State.wish_end" 965 966 322 1 0 0 3 586 true 181 587 .none (.ref 588) (.ref 589) (.ref 590) 968 969
def Vg:Ob:=f1 "wish_end" "State.wish_end" (zi 56 2) 3 (q "slowroad.states" 936) 591
def Vf:Ob:=tp [q "self" 974]
def adm:Ob:=f0 "may_put" "State.may_put" (zi 56 3)
def Ve:Ob:=cd "may_put" 971 "State.may_put" 972 973 325 1 0 0 3 593 true 181 594 .none (.ref 595) (.ref 596) (.ref 597) 975 976
def Vd:Ob:=f1 "may_put" "State.may_put" (zi 56 3) 3 (q "slowroad.states" 936) 598
def Vc:Ob:=tp [q "self" 981]
def adl:Ob:=f0 "begun" "State.begun" (zi 56 4)
def Vb:Ob:=cd "begun" 978 "State.begun" 979 980 328 1 0 0 3 600 true 181 601 .none (.ref 602) (.ref 603) (.ref 604) 982 983
def Va:Ob:=f1 "begun" "State.begun" (zi 56 4) 3 (q "slowroad.states" 936) 605
def U_:Ob:=tp [q "self" 988]
def adk:Ob:=f0 "ended" "State.ended" (zi 56 5)
def U9:Ob:=cd "ended" 985 "State.ended" 986 987 331 1 0 0 3 607 true 181 608 .none (.ref 609) (.ref 610) (.ref 611) 989 990
def U8:Ob:=f1 "ended" "State.ended" (zi 56 5) 3 (q "slowroad.states" 936) 612
def U7:Ob:=tp [q "self" 995]
def adj:Ob:=f0 "answered" "State.answered" (zi 56 6)
def U6:Ob:=cd "answered" 992 "State.answered" 993 994 334 1 0 0 3 614 true 181 615 .none (.ref 616) (.ref 617) (.ref 618) 996 997
def U5:Ob:=f1 "answered" "State.answered" (zi 56 6) 3 (q "slowroad.states" 936) 619
def U4(P:Pm):Ob:=zd #[zm P 945 "slowroad.states" 936,zl P 949 314 948,den P "name" 956 (.ref 578),den P "wish_begin" 963 (.ref 585),den P "wish_end" 970 (.ref 592),den P "may_put" 977 (.ref 599),den P "begun" 984 (.ref 606),den P "ended" 991 (.ref 613),den P "answered" 998 (.ref 620),za P 999 621,den P "__dict__" 1001 (.ref 624),den P "__weakref__" 1003 (.ref 625),den P "__doc__" 1004 .none] 4
def adi:Ob:=⟨.type "type",none,.cls (.mk (sO "State") [.type "object"] [.ref 623,.type "object"] 622 (sO "State") true [] [] false none false),#[none,none,some (q "State" 938),some (q "State" 946),some (.builtin "object.__new__"),some (.bool true)]⟩
def U3:Ob:=⟨.type "getset_descriptor",none,.fields #[q "__dict__" 1000,.ref 623,.builtin "function.__dict__",.builtin "function.__dict__#set"],#[]⟩
def U2:Ob:=⟨.type "getset_descriptor",none,.fields #[q "__weakref__" 1002,.ref 623,.builtin "ExceptionGroup.__weakref__",.none],#[]⟩
def adh:Ob:=zs 623
def adg:Ob:=zb 623
def adf(P:Pm):Ob:=md P (q "slowroad.states" 936) 59 60
def ade:Ob:=lt 105
def adb:Ob:=⟨.type "type",none,.cls (.mk (sO "State") [.type "object"] [.ref 623,.type "object"] 622 (sO "State") true [] [.ref 658,.ref 698] false none false),#[none,none,some (q "State" 938),some (q "State" 946),some (.builtin "object.__new__"),some (.bool true)]⟩
def tu:Ob:=tp [.ref 623]
def ada(P:Pm):Ob:=zd #[zm P 1014 "slowroad.states" 936,zq P 1016 "Shut" 1015,zl P 1018 336 1017,den P "name" 1025 (.ref 641),den P "wish_begin" 1032 (.ref 648),den P "begun" 1039 (.ref 655),za P 1040 656] 7
def ac_:Ob:=⟨.none,none,.fields #[.int 338 0,.int 4 0,.ref 640,.int 341 0,.int 4 0,.ref 647,.int 344 0,.int 4 0,.ref 654],#[]⟩
def ac9:Ob:=cd "Shut" 1009 "Shut" 1010 1011 336 0 0 0 0 631 false 181 632 .none .none .none .none 1012 1013
def ac8:Ob:=zf 633 3 630 "slowroad.states" 936 0
def U1:Ob:=tp [q "self" 1022]
def ac7:Ob:=f0 "name" "Shut.name" (zi 57 0)
def U0:Ob:=cd "name" 1019 "Shut.name" 1020 1021 338 1 0 0 3 635 true 181 636 .none (.ref 637) (.ref 638) (.ref 639) 1023 1024
def UZ:Ob:=f1 "name" "Shut.name" (zi 57 0) 3 (q "slowroad.states" 936) 640
def UY:Ob:=tp [q "self" 1029]
def ac6:Ob:=f0 "wish_begin" "Shut.wish_begin" (zi 57 1)
def UX:Ob:=cd "wish_begin" 1026 "Shut.wish_begin" 1027 1028 341 1 0 0 3 642 true 181 643 .none (.ref 644) (.ref 645) (.ref 646) 1030 1031
def UW:Ob:=f1 "wish_begin" "Shut.wish_begin" (zi 57 1) 3 (q "slowroad.states" 936) 647
def UU:Ob:=tp [q "self" 1036]
def ac5:Ob:=f0 "begun" "Shut.begun" (zi 57 2)
def UT:Ob:=cd "begun" 1033 "Shut.begun" 1034 1035 344 1 0 0 3 649 true 181 650 .none (.ref 651) (.ref 652) (.ref 653) 1037 1038
def US:Ob:=f1 "begun" "Shut.begun" (zi 57 2) 3 (q "slowroad.states" 936) 654
def UR(P:Pm):Ob:=zd #[zm P 1014 "slowroad.states" 936,zl P 1018 336 1017,den P "name" 1025 (.ref 641),den P "wish_begin" 1032 (.ref 648),den P "begun" 1039 (.ref 655),za P 1040 656,den P "__doc__" 1041 .none] 2
def UQ:Ob:=⟨.type "type",none,.cls (.mk (sO "Shut") [.ref 623] [.ref 658,.ref 623,.type "object"] 657 (sO "Shut") true [] [] false none false),#[some (.ref 628),none,some (q "Shut" 1007),some (q "Shut" 1015),some (.builtin "object.__new__"),some (.bool true)]⟩
def ac4:Ob:=zs 658
def ac3:Ob:=zb 658
def ac2(P:Pm):Ob:=zd #[zm P 1051 "slowroad.states" 936,zq P 1053 "Calling" 1052,zl P 1055 346 1054,den P "name" 1062 (.ref 674),den P "wish_end" 1069 (.ref 681),den P "may_put" 1076 (.ref 688),den P "begun" 1083 (.ref 695),za P 1084 696] 8
def ac1:Ob:=⟨.none,none,.fields #[.int 348 0,.int 4 0,.ref 673,.int 351 0,.int 4 0,.ref 680,.int 354 0,.int 4 0,.ref 687,.int 357 0,.int 4 0,.ref 694],#[]⟩
def ac0:Ob:=cd "Calling" 1046 "Calling" 1047 1048 346 0 0 0 0 664 false 181 665 .none .none .none .none 1049 1050
def acZ:Ob:=zf 666 3 663 "slowroad.states" 936 0
def UP:Ob:=tp [q "self" 1059]
def acY:Ob:=f0 "name" "Calling.name" (zi 58 0)
def UO:Ob:=cd "name" 1056 "Calling.name" 1057 1058 348 1 0 0 3 668 true 181 669 .none (.ref 670) (.ref 671) (.ref 672) 1060 1061
def UN:Ob:=f1 "name" "Calling.name" (zi 58 0) 3 (q "slowroad.states" 936) 673
def UM:Ob:=tp [q "self" 1066]
def acX:Ob:=f0 "wish_end" "Calling.wish_end" (zi 58 1)
def UL:Ob:=cd "wish_end" 1063 "Calling.wish_end" 1064 1065 351 1 0 0 3 675 true 181 676 .none (.ref 677) (.ref 678) (.ref 679) 1067 1068
def UK:Ob:=f1 "wish_end" "Calling.wish_end" (zi 58 1) 3 (q "slowroad.states" 936) 680
def UJ:Ob:=tp [q "self" 1073]
def acW:Ob:=f0 "may_put" "Calling.may_put" (zi 58 2)
def UI:Ob:=cd "may_put" 1070 "Calling.may_put" 1071 1072 354 1 0 0 3 682 true 181 683 .none (.ref 684) (.ref 685) (.ref 686) 1074 1075
def UH:Ob:=f1 "may_put" "Calling.may_put" (zi 58 2) 3 (q "slowroad.states" 936) 687
def UG:Ob:=tp [q "self" 1080]
def acV:Ob:=f0 "begun" "Calling.begun" (zi 58 3)
def UE:Ob:=cd "begun" 1077 "Calling.begun" 1078 1079 357 1 0 0 3 689 true 181 690 .none (.ref 691) (.ref 692) (.ref 693) 1081 1082
def UD:Ob:=f1 "begun" "Calling.begun" (zi 58 3) 3 (q "slowroad.states" 936) 694
def UC(P:Pm):Ob:=zd #[zm P 1051 "slowroad.states" 936,zl P 1055 346 1054,den P "name" 1062 (.ref 674),den P "wish_end" 1069 (.ref 681),den P "may_put" 1076 (.ref 688),den P "begun" 1083 (.ref 695),za P 1084 696,den P "__doc__" 1085 .none] 2
def UB:Ob:=⟨.type "type",none,.cls (.mk (sO "Calling") [.ref 623] [.ref 698,.ref 623,.type "object"] 697 (sO "Calling") true [] [] false none false),#[some (.ref 661),none,some (q "Calling" 1044),some (q "Calling" 1052),some (.builtin "object.__new__"),some (.bool true)]⟩
def acU:Ob:=zs 698
def acT:Ob:=zb 698
def acS(P:Pm):Ob:=md P (q "slowroad.states" 936) 61 62
def acR:Ob:=lt 111
def acQ:Ob:=⟨.type "type",none,.cls (.mk (sO "State") [.type "object"] [.ref 623,.type "object"] 622 (sO "State") true [] [.ref 658,.ref 698,.ref 738,.ref 771] false none false),#[none,none,some (q "State" 938),some (q "State" 946),some (.builtin "object.__new__"),some (.bool true)]⟩
def acP(P:Pm):Ob:=zd #[zm P 1095 "slowroad.states" 936,zq P 1097 "Open" 1096,zl P 1099 359 1098,den P "name" 1106 (.ref 714),den P "wish_end" 1113 (.ref 721),den P "may_put" 1120 (.ref 728),den P "ended" 1127 (.ref 735),za P 1128 736] 8
def acO:Ob:=⟨.none,none,.fields #[.int 361 0,.int 4 0,.ref 713,.int 364 0,.int 4 0,.ref 720,.int 367 0,.int 4 0,.ref 727,.int 370 0,.int 4 0,.ref 734],#[]⟩
def acN:Ob:=cd "Open" 1090 "Open" 1091 1092 359 0 0 0 0 704 false 181 705 .none .none .none .none 1093 1094
def acM:Ob:=zf 706 3 703 "slowroad.states" 936 0
def UA:Ob:=tp [q "self" 1103]
def acL:Ob:=f0 "name" "Open.name" (zi 59 0)
def Uz:Ob:=cd "name" 1100 "Open.name" 1101 1102 361 1 0 0 3 708 true 181 709 .none (.ref 710) (.ref 711) (.ref 712) 1104 1105
def Uy:Ob:=f1 "name" "Open.name" (zi 59 0) 3 (q "slowroad.states" 936) 713
def Ux:Ob:=tp [q "self" 1110]
def acK:Ob:=f0 "wish_end" "Open.wish_end" (zi 59 1)
def Uw:Ob:=cd "wish_end" 1107 "Open.wish_end" 1108 1109 364 1 0 0 3 715 true 181 716 .none (.ref 717) (.ref 718) (.ref 719) 1111 1112
def Uv:Ob:=f1 "wish_end" "Open.wish_end" (zi 59 1) 3 (q "slowroad.states" 936) 720
def Uu:Ob:=tp [q "self" 1117]
def acJ:Ob:=f0 "may_put" "Open.may_put" (zi 59 2)
def Ut:Ob:=cd "may_put" 1114 "Open.may_put" 1115 1116 367 1 0 0 3 722 true 181 723 .none (.ref 724) (.ref 725) (.ref 726) 1118 1119
def Us:Ob:=f1 "may_put" "Open.may_put" (zi 59 2) 3 (q "slowroad.states" 936) 727
def Ur:Ob:=tp [q "self" 1124]
def acI:Ob:=f0 "ended" "Open.ended" (zi 59 3)
def Uq:Ob:=cd "ended" 1121 "Open.ended" 1122 1123 370 1 0 0 3 729 true 181 730 .none (.ref 731) (.ref 732) (.ref 733) 1125 1126
def Up:Ob:=f1 "ended" "Open.ended" (zi 59 3) 3 (q "slowroad.states" 936) 734
def Uo(P:Pm):Ob:=zd #[zm P 1095 "slowroad.states" 936,zl P 1099 359 1098,den P "name" 1106 (.ref 714),den P "wish_end" 1113 (.ref 721),den P "may_put" 1120 (.ref 728),den P "ended" 1127 (.ref 735),za P 1128 736,den P "__doc__" 1129 .none] 2
def Um:Ob:=⟨.type "type",none,.cls (.mk (sO "Open") [.ref 623] [.ref 738,.ref 623,.type "object"] 737 (sO "Open") true [] [] false none false),#[some (.ref 701),none,some (q "Open" 1088),some (q "Open" 1096),some (.builtin "object.__new__"),some (.bool true)]⟩
def acH:Ob:=zs 738
def acG:Ob:=zb 738
def acF(P:Pm):Ob:=zd #[zm P 1139 "slowroad.states" 936,zq P 1141 "Left" 1140,zl P 1143 372 1142,den P "name" 1150 (.ref 754),den P "wish_end" 1157 (.ref 761),den P "may_put" 1164 (.ref 768),za P 1165 769] 7
def acE:Ob:=⟨.none,none,.fields #[.int 374 0,.int 4 0,.ref 753,.int 377 0,.int 4 0,.ref 760,.int 380 0,.int 4 0,.ref 767],#[]⟩
def acD:Ob:=cd "Left" 1134 "Left" 1135 1136 372 0 0 0 0 744 false 181 745 .none .none .none .none 1137 1138
def acC:Ob:=zf 746 3 743 "slowroad.states" 936 0
def Ul:Ob:=tp [q "self" 1147]
def acB:Ob:=f0 "name" "Left.name" (zi 60 0)
def Uk:Ob:=cd "name" 1144 "Left.name" 1145 1146 374 1 0 0 3 748 true 181 749 .none (.ref 750) (.ref 751) (.ref 752) 1148 1149
def Uj:Ob:=f1 "name" "Left.name" (zi 60 0) 3 (q "slowroad.states" 936) 753
def Ui:Ob:=tp [q "self" 1154]
def acA:Ob:=f0 "wish_end" "Left.wish_end" (zi 60 1)
def Uh:Ob:=cd "wish_end" 1151 "Left.wish_end" 1152 1153 377 1 0 0 3 755 true 181 756 .none (.ref 757) (.ref 758) (.ref 759) 1155 1156
def Ug:Ob:=f1 "wish_end" "Left.wish_end" (zi 60 1) 3 (q "slowroad.states" 936) 760
def Ue:Ob:=tp [q "self" 1161]
def acz:Ob:=f0 "may_put" "Left.may_put" (zi 60 2)
def Ud:Ob:=cd "may_put" 1158 "Left.may_put" 1159 1160 380 1 0 0 3 762 true 181 763 .none (.ref 764) (.ref 765) (.ref 766) 1162 1163
def Uc:Ob:=f1 "may_put" "Left.may_put" (zi 60 2) 3 (q "slowroad.states" 936) 767
def Ub(P:Pm):Ob:=zd #[zm P 1139 "slowroad.states" 936,zl P 1143 372 1142,den P "name" 1150 (.ref 754),den P "wish_end" 1157 (.ref 761),den P "may_put" 1164 (.ref 768),za P 1165 769,den P "__doc__" 1166 .none] 2
def Ua:Ob:=⟨.type "type",none,.cls (.mk (sO "Left") [.ref 623] [.ref 771,.ref 623,.type "object"] 770 (sO "Left") true [] [] false none false),#[some (.ref 741),none,some (q "Left" 1132),some (q "Left" 1140),some (.builtin "object.__new__"),some (.bool true)]⟩
def acy:Ob:=zs 771
def acx:Ob:=zb 771
def acw(P:Pm):Ob:=md P (q "slowroad.states" 936) 63 64
def acv:Ob:=lt 117
def acu:Ob:=⟨.type "type",none,.cls (.mk (sO "State") [.type "object"] [.ref 623,.type "object"] 622 (sO "State") true [] [.ref 658,.ref 698,.ref 738,.ref 771,.ref 804,.ref 830] false none false),#[none,none,some (q "State" 938),some (q "State" 946),some (.builtin "object.__new__"),some (.bool true)]⟩
def acs(P:Pm):Ob:=zd #[zm P 1176 "slowroad.states" 936,zq P 1178 "Leaving" 1177,zl P 1180 382 1179,den P "name" 1187 (.ref 787),den P "ended" 1194 (.ref 794),den P "answered" 1201 (.ref 801),za P 1202 802] 7
def acr:Ob:=⟨.none,none,.fields #[.int 384 0,.int 4 0,.ref 786,.int 387 0,.int 4 0,.ref 793,.int 390 0,.int 4 0,.ref 800],#[]⟩
def acq:Ob:=cd "Leaving" 1171 "Leaving" 1172 1173 382 0 0 0 0 777 false 181 778 .none .none .none .none 1174 1175
def acp:Ob:=zf 779 3 776 "slowroad.states" 936 0
def T_:Ob:=tp [q "self" 1184]
def aco:Ob:=f0 "name" "Leaving.name" (zi 61 0)
def T9:Ob:=cd "name" 1181 "Leaving.name" 1182 1183 384 1 0 0 3 781 true 181 782 .none (.ref 783) (.ref 784) (.ref 785) 1185 1186
def T8:Ob:=f1 "name" "Leaving.name" (zi 61 0) 3 (q "slowroad.states" 936) 786
def T7:Ob:=tp [q "self" 1191]
def acn:Ob:=f0 "ended" "Leaving.ended" (zi 61 1)
def T6:Ob:=cd "ended" 1188 "Leaving.ended" 1189 1190 387 1 0 0 3 788 true 181 789 .none (.ref 790) (.ref 791) (.ref 792) 1192 1193
def T5:Ob:=f1 "ended" "Leaving.ended" (zi 61 1) 3 (q "slowroad.states" 936) 793
def T4:Ob:=tp [q "self" 1198]
def acm:Ob:=f0 "answered" "Leaving.answered" (zi 61 2)
def T3:Ob:=cd "answered" 1195 "Leaving.answered" 1196 1197 390 1 0 0 3 795 true 181 796 .none (.ref 797) (.ref 798) (.ref 799) 1199 1200
def T2:Ob:=f1 "answered" "Leaving.answered" (zi 61 2) 3 (q "slowroad.states" 936) 800
def T1(P:Pm):Ob:=zd #[zm P 1176 "slowroad.states" 936,zl P 1180 382 1179,den P "name" 1187 (.ref 787),den P "ended" 1194 (.ref 794),den P "answered" 1201 (.ref 801),za P 1202 802,den P "__doc__" 1203 .none] 2
def TZ:Ob:=⟨.type "type",none,.cls (.mk (sO "Leaving") [.ref 623] [.ref 804,.ref 623,.type "object"] 803 (sO "Leaving") true [] [] false none false),#[some (.ref 774),none,some (q "Leaving" 1169),some (q "Leaving" 1177),some (.builtin "object.__new__"),some (.bool true)]⟩
def ack:Ob:=zs 804
def acj:Ob:=zb 804
def aci(P:Pm):Ob:=zd #[zm P 1213 "slowroad.states" 936,zq P 1215 "Waiting" 1214,zl P 1217 392 1216,den P "name" 1224 (.ref 820),den P "ended" 1231 (.ref 827),za P 1232 828] 6
def ach:Ob:=⟨.none,none,.fields #[.int 394 0,.int 4 0,.ref 819,.int 397 0,.int 4 0,.ref 826],#[]⟩
def acg:Ob:=cd "Waiting" 1208 "Waiting" 1209 1210 392 0 0 0 0 810 false 181 811 .none .none .none .none 1211 1212
def acf:Ob:=zf 812 3 809 "slowroad.states" 936 0
def TY:Ob:=tp [q "self" 1221]
def ace:Ob:=f0 "name" "Waiting.name" (zi 62 0)
def TX:Ob:=cd "name" 1218 "Waiting.name" 1219 1220 394 1 0 0 3 814 true 181 815 .none (.ref 816) (.ref 817) (.ref 818) 1222 1223
def TV:Ob:=f1 "name" "Waiting.name" (zi 62 0) 3 (q "slowroad.states" 936) 819
def TU:Ob:=tp [q "self" 1228]
def acd:Ob:=f0 "ended" "Waiting.ended" (zi 62 1)
def TR:Ob:=cd "ended" 1225 "Waiting.ended" 1226 1227 397 1 0 0 3 821 true 181 822 .none (.ref 823) (.ref 824) (.ref 825) 1229 1230
def TQ:Ob:=f1 "ended" "Waiting.ended" (zi 62 1) 3 (q "slowroad.states" 936) 826
def TN(P:Pm):Ob:=zd #[zm P 1213 "slowroad.states" 936,zl P 1217 392 1216,den P "name" 1224 (.ref 820),den P "ended" 1231 (.ref 827),za P 1232 828,den P "__doc__" 1233 .none] 2
def TM:Ob:=⟨.type "type",none,.cls (.mk (sO "Waiting") [.ref 623] [.ref 830,.ref 623,.type "object"] 829 (sO "Waiting") true [] [] false none false),#[some (.ref 807),none,some (q "Waiting" 1206),some (q "Waiting" 1214),some (.builtin "object.__new__"),some (.bool true)]⟩
def acb:Ob:=zs 830
def aca:Ob:=zb 830
def ab_(P:Pm):Ob:=md P (q "slowroad.hand" 1344) 67 68
def ab9:Ob:=lt 123
def TL:Ob:=⟨.type "type",none,.cls (.mk (sO "State") [.type "object"] [.ref 623,.type "object"] 622 (sO "State") true [] [.ref 658,.ref 698,.ref 738,.ref 771,.ref 804,.ref 830,.ref 856] false none false),#[none,none,some (q "State" 938),some (q "State" 946),some (.builtin "object.__new__"),some (.bool true)]⟩
def ab8(P:Pm):Ob:=zd #[zm P 1243 "slowroad.states" 936,zq P 1245 "Closing" 1244,zl P 1247 399 1246,den P "name" 1254 (.ref 846),den P "answered" 1261 (.ref 853),za P 1262 854] 6
def ab7:Ob:=⟨.none,none,.fields #[.int 401 0,.int 4 0,.ref 845,.int 404 0,.int 4 0,.ref 852],#[]⟩
def ab6:Ob:=cd "Closing" 1238 "Closing" 1239 1240 399 0 0 0 0 836 false 181 837 .none .none .none .none 1241 1242
def ab5:Ob:=zf 838 3 835 "slowroad.states" 936 0
def TK:Ob:=tp [q "self" 1251]
def ab4:Ob:=f0 "name" "Closing.name" (zi 63 0)
def TJ:Ob:=cd "name" 1248 "Closing.name" 1249 1250 401 1 0 0 3 840 true 181 841 .none (.ref 842) (.ref 843) (.ref 844) 1252 1253
def TF:Ob:=f1 "name" "Closing.name" (zi 63 0) 3 (q "slowroad.states" 936) 845
def TC:Ob:=tp [q "self" 1258]
def ab3:Ob:=f0 "answered" "Closing.answered" (zi 63 1)
def TB:Ob:=cd "answered" 1255 "Closing.answered" 1256 1257 404 1 0 0 3 847 true 181 848 .none (.ref 849) (.ref 850) (.ref 851) 1259 1260
def Tz:Ob:=f1 "answered" "Closing.answered" (zi 63 1) 3 (q "slowroad.states" 936) 852
def Tx(P:Pm):Ob:=zd #[zm P 1243 "slowroad.states" 936,zl P 1247 399 1246,den P "name" 1254 (.ref 846),den P "answered" 1261 (.ref 853),za P 1262 854,den P "__doc__" 1263 .none] 2
def Tw:Ob:=⟨.type "type",none,.cls (.mk (sO "Closing") [.ref 623] [.ref 856,.ref 623,.type "object"] 855 (sO "Closing") true [] [] false none false),#[some (.ref 833),none,some (q "Closing" 1236),some (q "Closing" 1244),some (.builtin "object.__new__"),some (.bool true)]⟩
def ab2:Ob:=zs 856
def ab1:Ob:=zb 856
def ab0(P:Pm):Ob:=zd #[zm P 1275 "slowroad.taker" 1266,zq P 1277 "Taker" 1276,zl P 1279 407 1278,den P "__init__" 1288 (.ref 872),den P "room_left" 1295 (.ref 879),den P "take" 1306 (.ref 886),den P "stand_in_order" 1314 (.ref 893),den P "answer" 1320 (.ref 898),den P "read" 1330 (.ref 905),za P 1336 906] 10
def abZ:Ob:=⟨.none,none,.fields #[.int 409 0,.int 4 0,.ref 871,.int 416 0,.int 4 0,.ref 878,.int 419 0,.int 4 0,.ref 885,.int 428 0,.int 4 0,.ref 892,.int 435 0,.int 4 0,.ref 897,.int 439 0,.int 4 0,.ref 904],#[]⟩
def abY:Ob:=cd "Taker" 1270 "Taker" 1271 1272 407 0 0 0 0 862 false 181 863 .none .none .none .none 1273 1274
def abX:Ob:=zf 864 3 861 "slowroad.taker" 1266 0
def Tv:Ob:=tp [q "self" 1283,q "ring" 1284,q "room" 1285]
def abW:Ob:=f0 "__init__" "Taker.__init__" (zi 65 0)
def Tu:Ob:=cd "__init__" 1280 "Taker.__init__" 1281 1282 409 3 0 0 3 866 true 181 867 .none (.ref 868) (.ref 869) (.ref 870) 1286 1287
def Tt:Ob:=f1 "__init__" "Taker.__init__" (zi 65 0) 3 (q "slowroad.taker" 1266) 871
def Ts:Ob:=tp [q "self" 1292]
def abV:Ob:=f0 "room_left" "Taker.room_left" (zi 65 1)
def Tr:Ob:=cd "room_left" 1289 "Taker.room_left" 1290 1291 416 1 0 0 3 873 true 181 874 .none (.ref 875) (.ref 876) (.ref 877) 1293 1294
def Tp:Ob:=f1 "room_left" "Taker.room_left" (zi 65 1) 3 (q "slowroad.taker" 1266) 878
def To:Ob:=tp [q "self" 1299,q "number" 1300,q "thing" 1301,q "steps" 1302,q "place" 1303]
def abU:Ob:=f0 "take" "Taker.take" (zi 65 2)
def Tn:Ob:=cd "take" 1296 "Taker.take" 1297 1298 419 3 0 0 3 880 true 181 881 .none (.ref 882) (.ref 883) (.ref 884) 1304 1305
def Tj:Ob:=f1 "take" "Taker.take" (zi 65 2) 3 (q "slowroad.taker" 1266) 885
def Ti:Ob:=tp [q "self" 1310,q "things" 1311]
def abT:Ob:=f0 "stand_in_order" "Taker.stand_in_order" (zi 65 3)
def Th:Ob:=cd "stand_in_order" 1307 "Taker.stand_in_order" 1308 1309 428 1 0 0 3 887 true 181 888 .none (.ref 889) (.ref 890) (.ref 891) 1312 1313
def Tg:Ob:=f1 "stand_in_order" "Taker.stand_in_order" (zi 65 3) 3 (q "slowroad.taker" 1266) 892
def abS:Ob:=f0 "answer" "Taker.answer" (zi 65 4)
def Tf:Ob:=cd "answer" 1315 "Taker.answer" 1316 1317 435 1 0 0 3 894 true 181 895 .none .none .none (.ref 896) 1318 1319
def Te:Ob:=f1 "answer" "Taker.answer" (zi 65 4) 3 (q "slowroad.taker" 1266) 897
def Td:Ob:=tp [q "self" 1324,q "most" 1325,q "things" 1326,q "place" 1327]
def abR:Ob:=f0 "read" "Taker.read" (zi 65 5)
def Tc:Ob:=cd "read" 1321 "Taker.read" 1322 1323 439 2 0 0 3 899 true 181 900 .none (.ref 901) (.ref 902) (.ref 903) 1328 1329
def Tb:Ob:=f1 "read" "Taker.read" (zi 65 5) 3 (q "slowroad.taker" 1266) 904
def Ta:Ob:=tp [q "got" 1331,q "kept" 1332,q "out" 1333,q "ring" 1334,q "room" 1335]
def S_(P:Pm):Ob:=zd #[zm P 1275 "slowroad.taker" 1266,zl P 1279 407 1278,den P "__init__" 1288 (.ref 872),den P "room_left" 1295 (.ref 879),den P "take" 1306 (.ref 886),den P "stand_in_order" 1314 (.ref 893),den P "answer" 1320 (.ref 898),den P "read" 1330 (.ref 905),za P 1336 906,den P "__dict__" 1338 (.ref 909),den P "__weakref__" 1340 (.ref 910),den P "__doc__" 1341 .none] 4
def S9:Ob:=⟨.type "type",none,.cls (.mk (sO "Taker") [.type "object"] [.ref 908,.type "object"] 907 (sO "Taker") true [] [] false none false),#[none,none,some (q "Taker" 1268),some (q "Taker" 1276),some (.builtin "object.__new__"),some (.bool true)]⟩
def S3:Ob:=⟨.type "getset_descriptor",none,.fields #[q "__dict__" 1337,.ref 908,.builtin "function.__dict__",.builtin "function.__dict__#set"],#[]⟩
def S0:Ob:=⟨.type "getset_descriptor",none,.fields #[q "__weakref__" 1339,.ref 908,.builtin "ExceptionGroup.__weakref__",.none],#[]⟩
def abQ:Ob:=zs 908
def abP:Ob:=zb 908
def SY:Ob:=tp [q "begin" 1348,q "" 1349]
def abO(P:Pm):Ob:=md P (q "slowroad.hand" 1344) 71 72
def abN:Ob:=lt 132
def SX:Ob:=tp [q "end" 1351,q "" 1352]
def abM:Ob:=f0 "is_text" "is_text" (top 70)
def SW:Ob:=cd "is_text" 1354 "is_text" 1355 1356 449 1 0 0 3 915 true 181 916 .none .none .none (.ref 917) 1357 1358
def SV:Ob:=f1 "is_text" "is_text" (top 70) 3 (q "slowroad.hand" 1344) 918
def SU:Ob:=tp [q "frame" 1363]
def abL:Ob:=f0 "read_or_none" "read_or_none" (top 71)
def SS:Ob:=cd "read_or_none" 1360 "read_or_none" 1361 1362 451 1 0 0 3 920 true 181 921 .none (.ref 922) (.ref 923) (.ref 924) 1364 1365
def SR:Ob:=f1 "read_or_none" "read_or_none" (top 71) 3 (q "slowroad.hand" 1344) 925
def abK(P:Pm):Ob:=zd #[zm P 1374 "slowroad.hand" 1344,zq P 1376 "Hand" 1375,zl P 1378 456 1377,den P "__init__" 1387 (.ref 940),den P "name" 1394 (.ref 947),den P "begin" 1401 (.ref 954),den P "end" 1408 (.ref 961),den P "put" 1417 (.ref 968),den P "read" 1427 (.ref 975),den P "come" 1437 (.ref 982),den P "hear" 1448 (.ref 989),den P "take_in" 1459 (.ref 996),den P "stand_to" 1467 (.ref 1003),den P "send" 1478 (.ref 1010),den P "piece_of" 1489 (.ref 1017),den P "quiet" 1496 (.ref 1024),za P 1504 1025] 17
def abJ:Ob:=⟨.none,none,.fields #[.int 458 0,.int 4 0,.ref 939,.int 467 0,.int 4 0,.ref 946,.int 470 0,.int 4 0,.ref 953,.int 474 0,.int 4 0,.ref 960,.int 479 0,.int 4 0,.ref 967,.int 487 0,.int 4 0,.ref 974,.int 494 0,.int 4 0,.ref 981,.int 506 0,.int 4 0,.ref 988,.int 513 0,.int 4 0,.ref 995,.int 519 0,.int 4 0,.ref 1002,.int 527 0,.int 4 0,.ref 1009,.int 536 0,.int 4 0,.ref 1016,.int 543 0,.int 4 0,.ref 1023],#[]⟩
def abI:Ob:=cd "Hand" 1369 "Hand" 1370 1371 456 0 0 0 0 930 false 181 931 .none .none .none .none 1372 1373
def abH:Ob:=zf 932 3 929 "slowroad.hand" 1344 0
def SQ:Ob:=tp [q "self" 1382,q "side" 1383,q "terms" 1384]
def abG:Ob:=f0 "__init__" "Hand.__init__" (zi 72 0)
def SO:Ob:=cd "__init__" 1379 "Hand.__init__" 1380 1381 458 3 0 0 3 934 true 181 935 .none (.ref 936) (.ref 937) (.ref 938) 1385 1386
def SN:Ob:=f1 "__init__" "Hand.__init__" (zi 72 0) 3 (q "slowroad.hand" 1344) 939
def SM:Ob:=tp [q "self" 1391]
def abF:Ob:=f0 "name" "Hand.name" (zi 72 1)
def SK:Ob:=cd "name" 1388 "Hand.name" 1389 1390 467 1 0 0 3 941 true 181 942 .none (.ref 943) (.ref 944) (.ref 945) 1392 1393
def SJ:Ob:=f1 "name" "Hand.name" (zi 72 1) 3 (q "slowroad.hand" 1344) 946
def SI:Ob:=tp [q "self" 1398]
def abE:Ob:=f0 "begin" "Hand.begin" (zi 72 2)
def SH:Ob:=cd "begin" 1395 "Hand.begin" 1396 1397 470 1 0 0 3 948 true 181 949 .none (.ref 950) (.ref 951) (.ref 952) 1399 1400
def SG:Ob:=f1 "begin" "Hand.begin" (zi 72 2) 3 (q "slowroad.hand" 1344) 953
def SF:Ob:=tp [q "self" 1405]
def abD:Ob:=f0 "end" "Hand.end" (zi 72 3)
def SE:Ob:=cd "end" 1402 "Hand.end" 1403 1404 474 1 0 0 3 955 true 181 956 .none (.ref 957) (.ref 958) (.ref 959) 1406 1407
def SD:Ob:=f1 "end" "Hand.end" (zi 72 3) 3 (q "slowroad.hand" 1344) 960
def OR:Ob:=tp [q "self" 1412,q "text" 1413,q "at" 1414]
def ZX:Ob:=f0 "put" "Hand.put" (zi 72 4)
def OQ:Ob:=cd "put" 1409 "Hand.put" 1410 1411 479 2 0 0 3 962 true 181 963 .none (.ref 964) (.ref 965) (.ref 966) 1415 1416
def OP:Ob:=f1 "put" "Hand.put" (zi 72 4) 3 (q "slowroad.hand" 1344) 967
def OO:Ob:=tp [q "self" 1421,q "many" 1422,q "had_room" 1423,q "things" 1424]
def ZV:Ob:=f0 "read" "Hand.read" (zi 72 5)
def OM:Ob:=cd "read" 1418 "Hand.read" 1419 1420 487 2 0 0 3 969 true 181 970 .none (.ref 971) (.ref 972) (.ref 973) 1425 1426
def OL:Ob:=f1 "read" "Hand.read" (zi 72 5) 3 (q "slowroad.hand" 1344) 974
def OK:Ob:=tp [q "self" 1431,q "frame" 1432,q "turn" 1433,q "piece" 1434]
def ZU:Ob:=f0 "come" "Hand.come" (zi 72 6)
def OJ:Ob:=cd "come" 1428 "Hand.come" 1429 1430 494 3 0 0 3 976 true 181 977 .none (.ref 978) (.ref 979) (.ref 980) 1435 1436
def OI:Ob:=f1 "come" "Hand.come" (zi 72 6) 3 (q "slowroad.hand" 1344) 981
def OH:Ob:=tp [q "self" 1441,q "piece" 1442,q "turn" 1443,q "low" 1444,q "place" 1445]
def ZT:Ob:=f0 "hear" "Hand.hear" (zi 72 7)
def OG:Ob:=cd "hear" 1438 "Hand.hear" 1439 1440 506 3 0 0 3 983 true 181 984 .none (.ref 985) (.ref 986) (.ref 987) 1446 1447
def OE:Ob:=f1 "hear" "Hand.hear" (zi 72 7) 3 (q "slowroad.hand" 1344) 988
def OD:Ob:=tp [q "self" 1452,q "number" 1453,q "thing" 1454,q "taken" 1455,q "in_order" 1456]
def ZS:Ob:=f0 "take_in" "Hand.take_in" (zi 72 8)
def OC:Ob:=cd "take_in" 1449 "Hand.take_in" 1450 1451 513 3 0 0 3 990 true 181 991 .none (.ref 992) (.ref 993) (.ref 994) 1457 1458
def OB:Ob:=f1 "take_in" "Hand.take_in" (zi 72 8) 3 (q "slowroad.hand" 1344) 995
def OA:Ob:=tp [q "self" 1463,q "kind" 1464]
def ZR:Ob:=f0 "stand_to" "Hand.stand_to" (zi 72 9)
def Oz:Ob:=cd "stand_to" 1460 "Hand.stand_to" 1461 1462 519 2 0 0 3 997 true 181 998 .none (.ref 999) (.ref 1000) (.ref 1001) 1465 1466
def Oy:Ob:=f1 "stand_to" "Hand.stand_to" (zi 72 9) 3 (q "slowroad.hand" 1344) 1002
def Ox:Ob:=tp [q "self" 1471,q "turn" 1472,q "what" 1473,q "word" 1474,q "place" 1475]
def ZQ:Ob:=f0 "send" "Hand.send" (zi 72 10)
def Ow:Ob:=cd "send" 1468 "Hand.send" 1469 1470 527 2 0 0 3 1004 true 181 1005 .none (.ref 1006) (.ref 1007) (.ref 1008) 1476 1477
def Ov:Ob:=f1 "send" "Hand.send" (zi 72 10) 3 (q "slowroad.hand" 1344) 1009
def Ou:Ob:=tp [q "self" 1482,q "word" 1483,q "place" 1484,q "answer" 1485,q "thing" 1486]
def ZP:Ob:=f0 "piece_of" "Hand.piece_of" (zi 72 11)
def Ot:Ob:=cd "piece_of" 1479 "Hand.piece_of" 1480 1481 536 3 0 0 3 1011 true 181 1012 .none (.ref 1013) (.ref 1014) (.ref 1015) 1487 1488
def Oq:Ob:=f1 "piece_of" "Hand.piece_of" (zi 72 11) 3 (q "slowroad.hand" 1344) 1016
def Oo:Ob:=tp [q "self" 1493]
def ZO:Ob:=f0 "quiet" "Hand.quiet" (zi 72 12)
def Om:Ob:=cd "quiet" 1490 "Hand.quiet" 1491 1492 543 1 0 0 3 1018 true 181 1019 .none (.ref 1020) (.ref 1021) (.ref 1022) 1494 1495
def Ol:Ob:=f1 "quiet" "Hand.quiet" (zi 72 12) 3 (q "slowroad.hand" 1344) 1023
def Oj:Ob:=tp [q "answer_due" 1497,q "end_places" 1498,q "ring" 1499,q "sender" 1500,q "side" 1501,q "state" 1502,q "taker" 1503]
def Oi(P:Pm):Ob:=zd #[zm P 1374 "slowroad.hand" 1344,zl P 1378 456 1377,den P "__init__" 1387 (.ref 940),den P "name" 1394 (.ref 947),den P "begin" 1401 (.ref 954),den P "end" 1408 (.ref 961),den P "put" 1417 (.ref 968),den P "read" 1427 (.ref 975),den P "come" 1437 (.ref 982),den P "hear" 1448 (.ref 989),den P "take_in" 1459 (.ref 996),den P "stand_to" 1467 (.ref 1003),den P "send" 1478 (.ref 1010),den P "piece_of" 1489 (.ref 1017),den P "quiet" 1496 (.ref 1024),za P 1504 1025,den P "__dict__" 1506 (.ref 1028),den P "__weakref__" 1508 (.ref 1029),den P "__doc__" 1509 .none] 4
def Oh:Ob:=⟨.type "type",none,.cls (.mk (sO "Hand") [.type "object"] [.ref 1027,.type "object"] 1026 (sO "Hand") true [] [] false none false),#[none,none,some (q "Hand" 1367),some (q "Hand" 1375),some (.builtin "object.__new__"),some (.bool true)]⟩
def Og:Ob:=⟨.type "getset_descriptor",none,.fields #[q "__dict__" 1505,.ref 1027,.builtin "function.__dict__",.builtin "function.__dict__#set"],#[]⟩
def Of:Ob:=⟨.type "getset_descriptor",none,.fields #[q "__weakref__" 1507,.ref 1027,.builtin "ExceptionGroup.__weakref__",.none],#[]⟩
def ZN:Ob:=zs 1027
def ZM:Ob:=zb 1027
def ZL(P:Pm):Ob:=md P (q "slowroad.walk" 1619) 90 91
def ZK:Ob:=lt 162
def ZJ:Ob:=f0 "copied" "copied" (top 79)
def Oe:Ob:=cd "copied" 1524 "copied" 1525 1526 551 1 0 0 3 1032 true 181 1033 .none .none .none (.ref 1034) 1527 1528
def Od:Ob:=f1 "copied" "copied" (top 79) 3 (q "slowroad.roads" 1512) 1035
def Oc:Ob:=tp [q "deeds" 1533,q "sending" 1534]
def ZI:Ob:=f0 "deed_at" "deed_at" (top 80)
def Oa:Ob:=cd "deed_at" 1530 "deed_at" 1531 1532 553 2 0 0 3 1037 true 181 1038 .none (.ref 1039) (.ref 1040) (.ref 1041) 1535 1536
def N_:Ob:=f1 "deed_at" "deed_at" (top 80) 3 (q "slowroad.roads" 1512) 1042
def N9:Ob:=tp [q "copy" 1541,q "lag" 1542]
def ZH:Ob:=f0 "is_copy" "is_copy" (top 81)
def N8:Ob:=cd "is_copy" 1538 "is_copy" 1539 1540 557 2 0 0 3 1044 true 181 1045 .none (.ref 1046) (.ref 1047) (.ref 1048) 1543 1544
def N7:Ob:=f1 "is_copy" "is_copy" (top 81) 3 (q "slowroad.roads" 1512) 1049
def ZG:Ob:=f0 "is_deed" "is_deed" (top 82)
def N6:Ob:=cd "is_deed" 1546 "is_deed" 1547 1548 559 2 0 0 3 1051 true 181 1052 .none .none .none (.ref 1053) 1549 1550
def N5:Ob:=f1 "is_deed" "is_deed" (top 82) 3 (q "slowroad.roads" 1512) 1054
def N4:Ob:=tp [q "deeds" 1555,q "lag" 1556,q "at" 1557,q "deed" 1558]
def ZF:Ob:=f0 "check_road" "check_road" (top 83)
def N3:Ob:=cd "check_road" 1552 "check_road" 1553 1554 561 2 0 0 3 1056 true 181 1057 .none (.ref 1058) (.ref 1059) (.ref 1060) 1559 1560
def N2:Ob:=f1 "check_road" "check_road" (top 83) 3 (q "slowroad.roads" 1512) 1061
def ZE(P:Pm):Ob:=zd #[zm P 1569 "slowroad.roads" 1512,zq P 1571 "Road" 1570,zl P 1573 567 1572,den P "__init__" 1582 (.ref 1076),den P "send" 1594 (.ref 1083),den P "come" 1600 (.ref 1088),den P "under_way" 1607 (.ref 1095),za P 1611 1096] 8
def ZD:Ob:=⟨.none,none,.fields #[.int 569 0,.int 4 0,.ref 1075,.int 575 0,.int 4 0,.ref 1082,.int 582 0,.int 4 0,.ref 1087,.int 587 0,.int 4 0,.ref 1094],#[]⟩
def ZC:Ob:=cd "Road" 1564 "Road" 1565 1566 567 0 0 0 0 1066 false 181 1067 .none .none .none .none 1567 1568
def ZA:Ob:=zf 1068 3 1065 "slowroad.roads" 1512 0
def N1:Ob:=tp [q "self" 1577,q "deeds" 1578,q "lag" 1579]
def Zz:Ob:=f0 "__init__" "Road.__init__" (zi 84 0)
def N0:Ob:=cd "__init__" 1574 "Road.__init__" 1575 1576 569 3 0 0 3 1070 true 181 1071 .none (.ref 1072) (.ref 1073) (.ref 1074) 1580 1581
def NZ:Ob:=f1 "__init__" "Road.__init__" (zi 84 0) 3 (q "slowroad.roads" 1512) 1075
def NY:Ob:=tp [q "self" 1586,q "turn" 1587,q "frame" 1588,q "sending" 1589,q "order" 1590,q "copy" 1591]
def Zy:Ob:=f0 "send" "Road.send" (zi 84 1)
def NX:Ob:=cd "send" 1583 "Road.send" 1584 1585 575 3 0 0 3 1077 true 181 1078 .none (.ref 1079) (.ref 1080) (.ref 1081) 1592 1593
def NW:Ob:=f1 "send" "Road.send" (zi 84 1) 3 (q "slowroad.roads" 1512) 1082
def Zx:Ob:=f0 "come" "Road.come" (zi 84 2)
def NV:Ob:=cd "come" 1595 "Road.come" 1596 1597 582 2 0 0 3 1084 true 181 1085 .none .none .none (.ref 1086) 1598 1599
def NU:Ob:=f1 "come" "Road.come" (zi 84 2) 3 (q "slowroad.roads" 1512) 1087
def NT:Ob:=tp [q "self" 1604]
def Zw:Ob:=f0 "under_way" "Road.under_way" (zi 84 3)
def NS:Ob:=cd "under_way" 1601 "Road.under_way" 1602 1603 587 1 0 0 3 1089 true 181 1090 .none (.ref 1091) (.ref 1092) (.ref 1093) 1605 1606
def NR:Ob:=f1 "under_way" "Road.under_way" (zi 84 3) 3 (q "slowroad.roads" 1512) 1094
def NQ:Ob:=tp [q "coming" 1608,q "deeds" 1609,q "sendings" 1610]
def NP(P:Pm):Ob:=zd #[zm P 1569 "slowroad.roads" 1512,zl P 1573 567 1572,den P "__init__" 1582 (.ref 1076),den P "send" 1594 (.ref 1083),den P "come" 1600 (.ref 1088),den P "under_way" 1607 (.ref 1095),za P 1611 1096,den P "__dict__" 1613 (.ref 1099),den P "__weakref__" 1615 (.ref 1100),den P "__doc__" 1616 .none] 4
def NO:Ob:=⟨.type "type",none,.cls (.mk (sO "Road") [.type "object"] [.ref 1098,.type "object"] 1097 (sO "Road") true [] [] false none false),#[none,none,some (q "Road" 1562),some (q "Road" 1570),some (.builtin "object.__new__"),some (.bool true)]⟩
def NN:Ob:=⟨.type "getset_descriptor",none,.fields #[q "__dict__" 1612,.ref 1098,.builtin "function.__dict__",.builtin "function.__dict__#set"],#[]⟩
def NM:Ob:=⟨.type "getset_descriptor",none,.fields #[q "__weakref__" 1614,.ref 1098,.builtin "ExceptionGroup.__weakref__",.none],#[]⟩
def Zv:Ob:=zs 1098
def Zu:Ob:=zb 1098
def NL:Ob:=tp [.int 0 1621,.int 1 1622]
def NK:Ob:=tp [q "wish" 1633]
def Zt:Ob:=f0 "is_wish" "is_wish" (top 90)
def NJ:Ob:=cd "is_wish" 1630 "is_wish" 1631 1632 594 1 0 0 3 1104 true 181 1105 .none (.ref 1106) (.ref 1107) (.ref 1108) 1634 1635
def NI:Ob:=f1 "is_wish" "is_wish" (top 90) 3 (q "slowroad.walk" 1619) 1109
def NH:Ob:=tp [q "word" 1640,q "value" 1641]
def Zs:Ob:=f0 "is_value" "is_value" (top 91)
def NG:Ob:=cd "is_value" 1637 "is_value" 1638 1639 596 2 0 0 3 1111 true 181 1112 .none (.ref 1113) (.ref 1114) (.ref 1115) 1642 1643
def NF:Ob:=f1 "is_value" "is_value" (top 91) 3 (q "slowroad.walk" 1619) 1116
def ND:Ob:=tp [q "wishes" 1648,q "at" 1649,q "wish" 1650]
def Zq:Ob:=f0 "check_wishes" "check_wishes" (top 92)
def NC:Ob:=cd "check_wishes" 1645 "check_wishes" 1646 1647 602 1 0 0 3 1118 true 181 1119 .none (.ref 1120) (.ref 1121) (.ref 1122) 1651 1652
def NB:Ob:=f1 "check_wishes" "check_wishes" (top 92) 3 (q "slowroad.walk" 1619) 1123
def Zp:Ob:=f0 "last_turn_of" "last_turn_of" (top 93)
def NA:Ob:=cd "last_turn_of" 1654 "last_turn_of" 1655 1656 606 1 0 0 3 1125 true 181 1126 .none .none .none (.ref 1127) 1657 1658
def Nz:Ob:=f1 "last_turn_of" "last_turn_of" (top 93) 3 (q "slowroad.walk" 1619) 1128
def Zo(P:Pm):Ob:=md P (q "slowroad.walk" 1619) 91 92
def Zn:Ob:=lt 165
def Ny:Ob:=tp [q "row" 1663]
def Zm:Ob:=f0 "own_row" "own_row" (top 94)
def Nw:Ob:=cd "own_row" 1660 "own_row" 1661 1662 608 1 0 0 3 1130 true 181 1131 .none (.ref 1132) (.ref 1133) (.ref 1134) 1664 1665
def Nv:Ob:=f1 "own_row" "own_row" (top 94) 3 (q "slowroad.walk" 1619) 1135
def Zl(P:Pm):Ob:=md P (q "slowroad.walk" 1619) 92 93
def Zk:Ob:=lt 168
def Zj(P:Pm):Ob:=zd #[zm P 1674 "slowroad.walk" 1619,zq P 1676 "Walk" 1675,zl P 1678 610 1677,den P "__init__" 1688 (.ref 1150),den P "step" 1697 (.ref 1157),den P "let_come" 1708 (.ref 1164),den P "do_wish" 1719 (.ref 1171),den P "went" 1731 (.ref 1178),den P "let_read" 1741 (.ref 1185),den P "wind_up" 1749 (.ref 1192),den P "unread" 1758 (.ref 1199),den P "let_send" 1768 (.ref 1206),den P "tell_stand" 1780 (.ref 1213),den P "quiet" 1786 (.ref 1218),den P "side_is_quiet" 1795 (.ref 1225),den P "run" 1803 (.ref 1232),den P "rows" 1809 (.ref 1237),den P "given_in" 1815 (.ref 1242),den P "given_out" 1823 (.ref 1249),za P 1833 1250] 20
def Zi:Ob:=⟨.none,none,.fields #[.int 612 0,.int 4 0,.ref 1149,.int 624 0,.int 4 0,.ref 1156,.int 639 0,.int 4 0,.ref 1163,.int 644 0,.int 4 0,.ref 1170,.int 650 0,.int 4 0,.ref 1177,.int 663 0,.int 4 0,.ref 1184,.int 669 0,.int 4 0,.ref 1191,.int 675 0,.int 4 0,.ref 1198,.int 679 0,.int 4 0,.ref 1205,.int 685 0,.int 4 0,.ref 1212,.int 692 0,.int 4 0,.ref 1217,.int 695 0,.int 4 0,.ref 1224,.int 699 0,.int 4 0,.ref 1231,.int 702 0,.int 4 0,.ref 1236,.int 705 0,.int 4 0,.ref 1241,.int 709 0,.int 4 0,.ref 1248],#[]⟩
def Zh:Ob:=cd "Walk" 1669 "Walk" 1670 1671 610 0 0 0 0 1140 false 181 1141 .none .none .none .none 1672 1673
def Zg:Ob:=zf 1142 3 1139 "slowroad.walk" 1619 0
def Nu:Ob:=tp [q "self" 1682,q "terms" 1683,q "roads" 1684,q "wishes" 1685]
def Ze:Ob:=f0 "__init__" "Walk.__init__" (zi 95 0)
def Nt:Ob:=cd "__init__" 1679 "Walk.__init__" 1680 1681 612 4 0 0 3 1144 true 181 1145 .none (.ref 1146) (.ref 1147) (.ref 1148) 1686 1687
def Nr:Ob:=f1 "__init__" "Walk.__init__" (zi 95 0) 3 (q "slowroad.walk" 1619) 1149
def Nq:Ob:=tp [q "self" 1692,q "side" 1693,q "wish" 1694]
def Zd:Ob:=f0 "step" "Walk.step" (zi 95 1)
def Np:Ob:=cd "step" 1689 "Walk.step" 1690 1691 624 1 0 0 3 1151 true 181 1152 .none (.ref 1153) (.ref 1154) (.ref 1155) 1695 1696
def Nn:Ob:=f1 "step" "Walk.step" (zi 95 1) 3 (q "slowroad.walk" 1619) 1156
def Nm:Ob:=tp [q "self" 1701,q "side" 1702,q "sending" 1703,q "frame" 1704,q "what" 1705]
def Zb:Ob:=f0 "let_come" "Walk.let_come" (zi 95 2)
def Nl:Ob:=cd "let_come" 1698 "Walk.let_come" 1699 1700 639 2 0 0 3 1158 true 181 1159 .none (.ref 1160) (.ref 1161) (.ref 1162) 1706 1707
def Nk:Ob:=f1 "let_come" "Walk.let_come" (zi 95 2) 3 (q "slowroad.walk" 1619) 1163
def Nj:Ob:=tp [q "self" 1712,q "side" 1713,q "word" 1714,q "value" 1715,q "went" 1716]
def Y_:Ob:=f0 "do_wish" "Walk.do_wish" (zi 95 3)
def Ni:Ob:=cd "do_wish" 1709 "Walk.do_wish" 1710 1711 644 4 0 0 3 1165 true 181 1166 .none (.ref 1167) (.ref 1168) (.ref 1169) 1717 1718
def Nh:Ob:=f1 "do_wish" "Walk.do_wish" (zi 95 3) 3 (q "slowroad.walk" 1619) 1170
def Ng:Ob:=tp [q "self" 1723,q "side" 1724,q "word" 1725,q "value" 1726,q "hand" 1727,q "refusal" 1728]
def Y8:Ob:=f0 "went" "Walk.went" (zi 95 4)
def Nf:Ob:=cd "went" 1720 "Walk.went" 1721 1722 650 4 0 0 3 1172 true 181 1173 .none (.ref 1174) (.ref 1175) (.ref 1176) 1729 1730
def Nd:Ob:=f1 "went" "Walk.went" (zi 95 4) 3 (q "slowroad.walk" 1619) 1177
def Nc:Ob:=tp [q "self" 1735,q "side" 1736,q "many" 1737,q "things" 1738]
def Y7:Ob:=f0 "let_read" "Walk.let_read" (zi 95 5)
def Nb:Ob:=cd "let_read" 1732 "Walk.let_read" 1733 1734 663 3 0 0 3 1179 true 181 1180 .none (.ref 1181) (.ref 1182) (.ref 1183) 1739 1740
def Na:Ob:=f1 "let_read" "Walk.let_read" (zi 95 5) 3 (q "slowroad.walk" 1619) 1184
def M_:Ob:=tp [q "self" 1745,q "side" 1746]
def Y5:Ob:=f0 "wind_up" "Walk.wind_up" (zi 95 6)
def M9:Ob:=cd "wind_up" 1742 "Walk.wind_up" 1743 1744 669 2 0 0 3 1186 true 181 1187 .none (.ref 1188) (.ref 1189) (.ref 1190) 1747 1748
def M8:Ob:=f1 "wind_up" "Walk.wind_up" (zi 95 6) 3 (q "slowroad.walk" 1619) 1191
def M7:Ob:=tp [q "self" 1753,q "side" 1754,q "taker" 1755]
def Y4:Ob:=f0 "unread" "Walk.unread" (zi 95 7)
def M6:Ob:=cd "unread" 1750 "Walk.unread" 1751 1752 675 2 0 0 3 1193 true 181 1194 .none (.ref 1195) (.ref 1196) (.ref 1197) 1756 1757
def M5:Ob:=f1 "unread" "Walk.unread" (zi 95 7) 3 (q "slowroad.walk" 1619) 1198
def M4:Ob:=tp [q "self" 1762,q "side" 1763,q "what" 1764,q "sending" 1765]
def Y3:Ob:=f0 "let_send" "Walk.let_send" (zi 95 8)
def M3:Ob:=cd "let_send" 1759 "Walk.let_send" 1760 1761 679 2 0 0 3 1200 true 181 1201 .none (.ref 1202) (.ref 1203) (.ref 1204) 1766 1767
def M1:Ob:=f1 "let_send" "Walk.let_send" (zi 95 8) 3 (q "slowroad.walk" 1619) 1205
def M0:Ob:=tp [q "self" 1772,q "side" 1773,q "hand" 1774,q "sender" 1775,q "stand" 1776,q "waits" 1777]
def Y2:Ob:=f0 "tell_stand" "Walk.tell_stand" (zi 95 9)
def MZ:Ob:=cd "tell_stand" 1769 "Walk.tell_stand" 1770 1771 685 2 0 0 3 1207 true 181 1208 .none (.ref 1209) (.ref 1210) (.ref 1211) 1778 1779
def MY:Ob:=f1 "tell_stand" "Walk.tell_stand" (zi 95 9) 3 (q "slowroad.walk" 1619) 1212
def Y1:Ob:=f0 "quiet" "Walk.quiet" (zi 95 10)
def MX:Ob:=cd "quiet" 1781 "Walk.quiet" 1782 1783 692 1 0 0 3 1214 true 181 1215 .none .none .none (.ref 1216) 1784 1785
def MW:Ob:=f1 "quiet" "Walk.quiet" (zi 95 10) 3 (q "slowroad.walk" 1619) 1217
def MV:Ob:=tp [q "self" 1790,q "side" 1791,q "hand" 1792]
def Y0:Ob:=f0 "side_is_quiet" "Walk.side_is_quiet" (zi 95 11)
def MU:Ob:=cd "side_is_quiet" 1787 "Walk.side_is_quiet" 1788 1789 695 2 0 0 3 1219 true 181 1220 .none (.ref 1221) (.ref 1222) (.ref 1223) 1793 1794
def MT:Ob:=f1 "side_is_quiet" "Walk.side_is_quiet" (zi 95 11) 3 (q "slowroad.walk" 1619) 1224
def MR:Ob:=tp [q "self" 1799,q "most" 1800]
def YZ:Ob:=f0 "run" "Walk.run" (zi 95 12)
def MQ:Ob:=cd "run" 1796 "Walk.run" 1797 1798 699 2 0 0 3 1226 true 181 1227 .none (.ref 1228) (.ref 1229) (.ref 1230) 1801 1802
def MP:Ob:=f1 "run" "Walk.run" (zi 95 12) 3 (q "slowroad.walk" 1619) 1231
def YY:Ob:=f0 "rows" "Walk.rows" (zi 95 13)
def MO:Ob:=cd "rows" 1804 "Walk.rows" 1805 1806 702 1 0 0 3 1233 true 181 1234 .none .none .none (.ref 1235) 1807 1808
def MN:Ob:=f1 "rows" "Walk.rows" (zi 95 13) 3 (q "slowroad.walk" 1619) 1236
def YX:Ob:=f0 "given_in" "Walk.given_in" (zi 95 14)
def MM:Ob:=cd "given_in" 1810 "Walk.given_in" 1811 1812 705 2 0 0 3 1238 true 181 1239 .none .none .none (.ref 1240) 1813 1814
def ML:Ob:=f1 "given_in" "Walk.given_in" (zi 95 14) 3 (q "slowroad.walk" 1619) 1241
def MK:Ob:=tp [q "self" 1819,q "side" 1820]
def YW:Ob:=f0 "given_out" "Walk.given_out" (zi 95 15)
def MJ:Ob:=cd "given_out" 1816 "Walk.given_out" 1817 1818 709 2 0 0 3 1243 true 181 1244 .none (.ref 1245) (.ref 1246) (.ref 1247) 1821 1822
def MI:Ob:=f1 "given_out" "Walk.given_out" (zi 95 15) 3 (q "slowroad.walk" 1619) 1248
def MH:Ob:=tp [q "deeds" 1824,q "hands" 1825,q "last_wish" 1826,q "outs" 1827,q "roads" 1828,q "terms" 1829,q "told" 1830,q "turn" 1831,q "wishes" 1832]
def MG(P:Pm):Ob:=zd #[zm P 1674 "slowroad.walk" 1619,zl P 1678 610 1677,den P "__init__" 1688 (.ref 1150),den P "step" 1697 (.ref 1157),den P "let_come" 1708 (.ref 1164),den P "do_wish" 1719 (.ref 1171),den P "went" 1731 (.ref 1178),den P "let_read" 1741 (.ref 1185),den P "wind_up" 1749 (.ref 1192),den P "unread" 1758 (.ref 1199),den P "let_send" 1768 (.ref 1206),den P "tell_stand" 1780 (.ref 1213),den P "quiet" 1786 (.ref 1218),den P "side_is_quiet" 1795 (.ref 1225),den P "run" 1803 (.ref 1232),den P "rows" 1809 (.ref 1237),den P "given_in" 1815 (.ref 1242),den P "given_out" 1823 (.ref 1249),za P 1833 1250,den P "__dict__" 1835 (.ref 1253),den P "__weakref__" 1837 (.ref 1254),den P "__doc__" 1838 .none] 4
def MF:Ob:=⟨.type "type",none,.cls (.mk (sO "Walk") [.type "object"] [.ref 1252,.type "object"] 1251 (sO "Walk") true [] [] false none false),#[none,none,some (q "Walk" 1667),some (q "Walk" 1675),some (.builtin "object.__new__"),some (.bool true)]⟩
def ME:Ob:=⟨.type "getset_descriptor",none,.fields #[q "__dict__" 1834,.ref 1252,.builtin "function.__dict__",.builtin "function.__dict__#set"],#[]⟩
def MD:Ob:=⟨.type "getset_descriptor",none,.fields #[q "__weakref__" 1836,.ref 1252,.builtin "ExceptionGroup.__weakref__",.none],#[]⟩
def YV:Ob:=zs 1252
def YU:Ob:=zb 1252
def MC(P:Pm):Ob:=⟨.type "dict",none,.dict #[den P "__name__" 165 (q "law_slowroad_k70_bad_wishes" 1908),den P "__doc__" 166 .none,den P "__package__" 167 .none,den P "__loader__" 168 (.builtin "__main__.__loader__#opaque"),den P "__spec__" 169 .none,den P "__annotations__" 170 (.ref 6),den P "__builtins__" 171 (.ref 4),den P "__file__" 173 (q "/claim/cut.py" 172),den P "__cached__" 174 .none,den P "_wall" 193 (.ref 21),den P "is_from" 204 (.ref 28),den P "RoadError" 224 (.ref 38),den P "NoFrame" 249 (.ref 58),den P "Spoilt" 274 (.ref 77),den P "NoPiece" 299 (.ref 96),den P "BadRoad" 324 (.ref 115),den P "BadTerms" 340 (.ref 127),den P "NotWide" 365 (.ref 146),den P "BadText" 381 (.ref 158),den P "NotNow" 408 (.ref 177),den P "BadWish" 433 (.ref 196),den P "KINDS" 441 (.ref 199),den P "SIGNS" 443 (q " !\"#$&'()*+,-./0123456789:;<=>?@ABCDEFGHIJKLMNOPQRSTUVWXYZ[\\]^_`abcdefghijklmnopqrstuvwxyz{|}~" 442),den P "UNNUMBERED" 446 (.ref 200),den P "NUMBER_MOST" 448 (.int 63 447),den P "ROOM_MOST_pieces" 450 (.int 16 449),den P "HELD_MOST" 452 (.int 15 451),den P "SIGNS_MOST" 454 (.int 4 453),den P "FRAME_BITS" 456 (.int 74 455),den P "CHECK_BITS" 458 (.int 8 457),den P "DIVISOR" 460 (.int 263 459),den P "DIVISOR_BITS" 462 (.int 9 461),den P "REMAINDER_MOST" 464 (.int 255 463),den P "NO_KIND" 466 (q "" 465),den P "NO_SIGN" 468 (q "\n" 467),den P "is_piece" 476 (.ref 207),den P "is_held" 485 (.ref 214),den P "are_signs" 491 (.ref 219),den P "remainder" 499 (.ref 226),den P "written" 507 (.ref 233),den P "body_of" 515 (.ref 240),den P "bits_of_held" 521 (.ref 245),den P "bits_of_signs" 530 (.ref 252),den P "is_frame" 537 (.ref 259),den P "read" 545 (.ref 266),den P "likely_piece" 552 (.ref 273),den P "kind_of" 559 (.ref 280),den P "held_of" 565 (.ref 285),den P "signs_of" 571 (.ref 290),den P "sign_of" 578 (.ref 297),den P "Meter" 649 (.ref 349),den P "ahead" 660 (.ref 360),den P "WAIT_LEAST_ways" 664 (.int 2 663),den P "lowest" 673 (.ref 367),den P "Ways" 747 (.ref 419),den P "KNOWN_TO_HURRY" 751 (.int 2 750),den P "Sender" 935 (.ref 560),den P "State" 1006 (.ref 623),den P "Shut" 1043 (.ref 658),den P "Calling" 1087 (.ref 698),den P "Open" 1131 (.ref 738),den P "Left" 1168 (.ref 771),den P "Leaving" 1205 (.ref 804),den P "Waiting" 1235 (.ref 830),den P "Closing" 1265 (.ref 856),den P "Taker" 1343 (.ref 908),den P "TEXT_MOST" 1347 (.int 60 1346),den P "BEGIN" 1350 (.ref 913),den P "END" 1353 (.ref 914),den P "is_text" 1359 (.ref 919),den P "read_or_none" 1366 (.ref 926),den P "Hand" 1511 (.ref 1027),den P "LAG_MOST_roads" 1515 (.int 60 1514),den P "DEEDS_MOST" 1517 (.int 60 1516),den P "COPIES_MOST" 1519 (.int 3 1518),den P "PLACE_MOST" 1521 (.int 66 1520),den P "RUN_MOST" 1523 (.int 255 1522),den P "copied" 1529 (.ref 1036),den P "deed_at" 1537 (.ref 1043),den P "is_copy" 1545 (.ref 1050),den P "is_deed" 1551 (.ref 1055),den P "check_road" 1561 (.ref 1062),den P "Road" 1618 (.ref 1098),den P "SIDES" 1623 (.ref 1103),den P "WISHES_MOST" 1625 (.int 60 1624),den P "WISH_TURN_MOST" 1627 (.int 400 1626),den P "READ_MOST" 1629 (.int 60 1628),den P "is_wish" 1636 (.ref 1110),den P "is_value" 1644 (.ref 1117),den P "check_wishes" 1653 (.ref 1124),den P "last_turn_of" 1659 (.ref 1129),den P "own_row" 1666 (.ref 1136),den P "Walk" 1840 (.ref 1252),den P "need" 1850 (.ref 1263),den P "RING_MOST" 1854 (.int 64 1853),den P "ROOM_MOST_terms" 1856 (.int 16 1855),den P "LAG_MOST_terms" 1858 (.int 32 1857),den P "WAIT_LEAST_terms" 1860 (.int 2 1859),den P "WAIT_MOST" 1862 (.int 64 1861),den P "are_rooms" 1868 (.ref 1268),den P "are_waits" 1876 (.ref 1275),den P "Terms" 1907 (.ref 1290),den P "_law_cell_at" 1917 (.ref 1301),den P "_law_mixed" 1926 (.ref 1308),den P "_law_text" 1932 (.ref 1313),den P "_law_wish" 1942 (.ref 1320),den P "_law_wrong" 1957 (.ref 1327),den P "_law_deeds" 1968 (.ref 1334),den P "_law_spoil" 1979 (.ref 1341),den P "_law_refusal" 1993 (.ref 1348),den P "law" 1999 (.ref 1353)] 111,#[]⟩
def YT:Ob:=lt 207
def MB:Ob:=tp [q "room" 1846,q "lag" 1847]
def YS:Ob:=f0 "need" "need" (top 97)
def MA:Ob:=cd "need" 1843 "need" 1844 1845 712 2 0 0 3 1257 true 181 1258 .none (.ref 1259) (.ref 1260) (.ref 1261) 1848 1849
def Mz:Ob:=f1 "need" "need" (top 97) 3 (q "slowroad.fooling" 1841) 1262
def YR:Ob:=f0 "are_rooms" "are_rooms" (top 104)
def My:Ob:=cd "are_rooms" 1863 "are_rooms" 1864 1865 720 1 0 0 3 1264 true 181 1265 .none .none .none (.ref 1266) 1866 1867
def Mx:Ob:=f1 "are_rooms" "are_rooms" (top 104) 3 (q "slowroad.terms" 1851) 1267
def Mw:Ob:=tp [q "first" 1872,q "longest" 1873]
def YQ:Ob:=f0 "are_waits" "are_waits" (top 105)
def Mv:Ob:=cd "are_waits" 1869 "are_waits" 1870 1871 722 2 0 0 3 1269 true 181 1270 .none (.ref 1271) (.ref 1272) (.ref 1273) 1874 1875
def Mu:Ob:=f1 "are_waits" "are_waits" (top 105) 3 (q "slowroad.terms" 1851) 1274
def YO(P:Pm):Ob:=zd #[zm P 1884 "slowroad.terms" 1851,zq P 1886 "Terms" 1885,zl P 1888 724 1887,den P "__init__" 1894 (.ref 1287),za P 1900 1288] 5
def YN:Ob:=zn 726 4 1286
def YM:Ob:=cd "Terms" 1879 "Terms" 1880 1881 724 0 0 0 0 1279 false 181 1280 .none .none .none .none 1882 1883
def YL:Ob:=zf 1281 3 1278 "slowroad.terms" 1851 0
def YK:Ob:=f0 "__init__" "Terms.__init__" (zi 106 0)
def Mt:Ob:=cd "__init__" 1889 "Terms.__init__" 1890 1891 726 6 0 0 3 1283 true 181 1284 .none .none .none (.ref 1285) 1892 1893
def Ms:Ob:=f1 "__init__" "Terms.__init__" (zi 106 0) 3 (q "slowroad.terms" 1851) 1286
def Mr:Ob:=tp [q "first" 1895,q "lag" 1896,q "longest" 1897,q "ring" 1898,q "rooms" 1899]
def Mq(P:Pm):Ob:=zd #[zm P 1884 "slowroad.terms" 1851,zl P 1888 724 1887,den P "__init__" 1894 (.ref 1287),za P 1900 1288,den P "__dict__" 1902 (.ref 1291),den P "__weakref__" 1904 (.ref 1292),den P "__doc__" 1905 .none] 4
def Mp:Ob:=⟨.type "type",none,.cls (.mk (sO "Terms") [.type "object"] [.ref 1290,.type "object"] 1289 (sO "Terms") true [] [] false none false),#[none,none,some (q "Terms" 1877),some (q "Terms" 1885),some (.builtin "object.__new__"),some (.bool true)]⟩
def Mo:Ob:=⟨.type "getset_descriptor",none,.fields #[q "__dict__" 1901,.ref 1290,.builtin "function.__dict__",.builtin "function.__dict__#set"],#[]⟩
def Mn:Ob:=⟨.type "getset_descriptor",none,.fields #[q "__weakref__" 1903,.ref 1290,.builtin "ExceptionGroup.__weakref__",.none],#[]⟩
def YJ:Ob:=zs 1290
def YH:Ob:=zb 1290
def Mm:Ob:=tp [q "_law_script" 1913,q "_law_k" 1914]
def YG:Ob:=f0 "_law_cell_at" "_law_cell_at" (top 108)
def Ml:Ob:=cd "_law_cell_at" 1910 "_law_cell_at" 1911 1912 740 2 0 0 3 1295 true 181 1296 .none (.ref 1297) (.ref 1298) (.ref 1299) 1915 1916
def Mj:Ob:=f1 "_law_cell_at" "_law_cell_at" (top 108) 3 (q "law_slowroad_k70_bad_wishes" 1908) 1300
def Mi:Ob:=tp [q "_law_cell" 1921,q "_law_k" 1922,q "_law_number" 1923]
def YE:Ob:=f0 "_law_mixed" "_law_mixed" (top 109)
def Mh:Ob:=cd "_law_mixed" 1918 "_law_mixed" 1919 1920 744 2 0 0 3 1302 true 181 1303 .none (.ref 1304) (.ref 1305) (.ref 1306) 1924 1925
def Mg:Ob:=f1 "_law_mixed" "_law_mixed" (top 109) 3 (q "law_slowroad_k70_bad_wishes" 1908) 1307
def YD:Ob:=f0 "_law_text" "_law_text" (top 110)
def Mf:Ob:=cd "_law_text" 1927 "_law_text" 1928 1929 747 2 0 0 3 1309 true 181 1310 .none .none .none (.ref 1311) 1930 1931
def Me:Ob:=f1 "_law_text" "_law_text" (top 110) 3 (q "law_slowroad_k70_bad_wishes" 1908) 1312
def Md:Ob:=tp [q "_law_cell" 1936,q "_law_number" 1937,q "_law_turn" 1938,q "_law_side" 1939]
def YC:Ob:=f0 "_law_wish" "_law_wish" (top 111)
def Mc:Ob:=cd "_law_wish" 1933 "_law_wish" 1934 1935 752 1 0 0 3 1314 true 181 1315 .none (.ref 1316) (.ref 1317) (.ref 1318) 1940 1941
def Mb:Ob:=f1 "_law_wish" "_law_wish" (top 111) 3 (q "law_slowroad_k70_bad_wishes" 1908) 1319
def Ma:Ob:=tp [q "_law_wish_here" 1946,q "_law_cell" 1947,q "_law_turn" 1948,q "_law_side" 1949,q "_law_word" 1950,q "_law_value" 1951,q "_law_far" 1952,q "_law_text_here" 1953,q "_law_some" 1954]
def YB:Ob:=f0 "_law_wrong" "_law_wrong" (top 112)
def L_:Ob:=cd "_law_wrong" 1943 "_law_wrong" 1944 1945 763 2 0 0 3 1321 true 181 1322 .none (.ref 1323) (.ref 1324) (.ref 1325) 1955 1956
def L9:Ob:=f1 "_law_wrong" "_law_wrong" (top 112) 3 (q "law_slowroad_k70_bad_wishes" 1908) 1326
def L8:Ob:=tp [q "_law_cell" 1961,q "_law_lag" 1962,q "_law_number" 1963,q "_law_deeds_here" 1964,q "_law_k" 1965]
def YA:Ob:=f0 "_law_deeds" "_law_deeds" (top 113)
def L7:Ob:=cd "_law_deeds" 1958 "_law_deeds" 1959 1960 774 2 0 0 3 1328 true 181 1329 .none (.ref 1330) (.ref 1331) (.ref 1332) 1966 1967
def L6:Ob:=f1 "_law_deeds" "_law_deeds" (top 113) 3 (q "law_slowroad_k70_bad_wishes" 1908) 1333
def LZ:Ob:=tp [q "_law_deeds_here" 1972,q "_law_cell" 1973,q "_law_lag" 1974,q "_law_copies" 1975,q "_law_at" 1976]
def Yz:Ob:=f0 "_law_spoil" "_law_spoil" (top 114)
def LY:Ob:=cd "_law_spoil" 1969 "_law_spoil" 1970 1971 780 3 0 0 3 1335 true 181 1336 .none (.ref 1337) (.ref 1338) (.ref 1339) 1977 1978
def LX:Ob:=f1 "_law_spoil" "_law_spoil" (top 114) 3 (q "law_slowroad_k70_bad_wishes" 1908) 1340
def LW:Ob:=tp [q "_law_terms" 1983,q "_law_roads" 1984,q "_law_wishes" 1985,q "_law_walk" 1986,q "_law_told" 1987,q "e" 1988,q "_law_quiet" 1989,q "_law_fine" 1990]
def Yy:Ob:=f0 "_law_refusal" "_law_refusal" (top 115)
def LV:Ob:=cd "_law_refusal" 1980 "_law_refusal" 1981 1982 787 3 0 0 3 1342 true 181 1343 .none (.ref 1344) (.ref 1345) (.ref 1346) 1991 1992
def LU:Ob:=f1 "_law_refusal" "_law_refusal" (top 115) 3 (q "law_slowroad_k70_bad_wishes" 1908) 1347
def Yx:Ob:=f0 "law" "law" (top 116)
def LS:Ob:=cd "law" 1994 "law" 1995 1996 802 1 0 0 3 1349 true 181 1350 .none .none .none (.ref 1351) 1997 1998
def LR:Ob:=f1 "law" "law" (top 116) 3 (q "law_slowroad_k70_bad_wishes" 1908) 1352
def Aw:Params→Frag:=fun P=>(nat_lit 2,boot_o_2 P)::(nat_lit 3,MC P)::(nat_lit 15,au)::(nat_lit 17,o19)::(nat_lit 18,au)::(nat_lit 20,o22)::(nat_lit 21,o23)::(nat_lit 22,au)::(nat_lit 24,o26)::(nat_lit 25,au)::(nat_lit 27,o29)::(nat_lit 28,o30)::(nat_lit 29,o31)::(nat_lit 36,au)::(nat_lit 37,o39 P)::(nat_lit 38,Yo)::(nat_lit 39,o41)::(nat_lit 42,Cc)::(nat_lit 49,au)::(nat_lit 51,o53)::(nat_lit 52,au)::(nat_lit 54,o56)::(nat_lit 55,o57)::(nat_lit 56,o58)::(nat_lit 57,o59 P)::(nat_lit 58,o60)::(nat_lit 61,Cc)::(nat_lit 68,au)::(nat_lit 70,o75)::(nat_lit 71,au)::(nat_lit 73,o78)::(nat_lit 74,o79)::(nat_lit 75,o80)::(nat_lit 76,o81 P)::(nat_lit 77,o82)::(nat_lit 80,Cc)::(nat_lit 87,au)::(nat_lit 89,o94)::(nat_lit 90,au)::(nat_lit 92,o97)::(nat_lit 93,o98)::(nat_lit 94,o99)::(nat_lit 95,ZY P)::(nat_lit 96,ZW)::(nat_lit 99,Cc)::(nat_lit 106,au)::(nat_lit 108,Zr)::(nat_lit 109,au)::(nat_lit 111,Zf)::(nat_lit 112,Zc)::(nat_lit 113,Za)::(nat_lit 114,Y9 P)::(nat_lit 115,Y6)::(nat_lit 118,Cc)::(nat_lit 125,au)::(nat_lit 126,YI P)::(nat_lit 127,YF)::(nat_lit 130,Cc)::(nat_lit 137,au)::(nat_lit 139,Yw)::(nat_lit 140,au)::(nat_lit 142,Yv)::(nat_lit 143,Yu)::(nat_lit 144,Yt)::(nat_lit 145,Ys P)::(nat_lit 146,Yr)::(nat_lit 149,Cc)::(nat_lit 156,au)::(nat_lit 157,Yq P)::(nat_lit 158,Yp)::(nat_lit 161,Cc)::(nat_lit 168,au)::(nat_lit 170,Yn)::(nat_lit 171,au)::(nat_lit 173,Ym)::(nat_lit 174,Yl)::(nat_lit 175,Yk)::(nat_lit 176,Yj P)::(nat_lit 177,Yi)::(nat_lit 180,Cc)::(nat_lit 187,au)::(nat_lit 189,Yh)::(nat_lit 190,au)::(nat_lit 192,Yg)::(nat_lit 193,Ye)::(nat_lit 194,Yd)::(nat_lit 195,Yc P)::(nat_lit 196,Yb)::(nat_lit 199,X_)::(nat_lit 200,X9)::(nat_lit 201,au)::(nat_lit 203,X8)::(nat_lit 204,au)::(nat_lit 206,X7)::(nat_lit 207,X6)::(nat_lit 208,au)::(nat_lit 210,X4)::(nat_lit 211,au)::(nat_lit 213,X0)::(nat_lit 214,XZ)::(nat_lit 215,au)::(nat_lit 218,XY)::(nat_lit 219,XX)::(nat_lit 220,au)::(nat_lit 222,XW)::(nat_lit 223,au)::(nat_lit 225,XU)::(nat_lit 226,XT)::(nat_lit 227,au)::(nat_lit 229,XS)::(nat_lit 230,au)::(nat_lit 232,XR)::(nat_lit 233,XQ)::(nat_lit 234,au)::(nat_lit 236,XO)::(nat_lit 237,au)::(nat_lit 239,XN)::(nat_lit 240,XM)::(nat_lit 241,au)::(nat_lit 244,XJ)::(nat_lit 245,XI)::(nat_lit 246,au)::(nat_lit 248,XH)::(nat_lit 249,au)::(nat_lit 251,XG)::(nat_lit 252,XF)::(nat_lit 253,au)::(nat_lit 255,XE)::(nat_lit 256,au)::(nat_lit 258,XD)::(nat_lit 259,XC)::(nat_lit 260,au)::(nat_lit 262,XB)::(nat_lit 263,au)::(nat_lit 265,XA)::(nat_lit 266,Xz)::(nat_lit 267,au)::(nat_lit 269,Xy)::(nat_lit 270,au)::(nat_lit 272,Xx)::(nat_lit 273,Xw)::(nat_lit 274,au)::(nat_lit 276,Xv)::(nat_lit 277,au)::(nat_lit 279,Xu)::(nat_lit 280,Xs)::(nat_lit 281,au)::(nat_lit 284,Xr)::(nat_lit 285,Xq)::(nat_lit 286,au)::(nat_lit 289,Xp)::(nat_lit 290,Xo)::(nat_lit 291,au)::(nat_lit 293,Xn)::(nat_lit 294,au)::(nat_lit 296,Xm)::(nat_lit 297,Xl)::(nat_lit 305,au)::(nat_lit 307,Xk)::(nat_lit 308,au)::(nat_lit 310,Xj)::(nat_lit 311,Xi)::(nat_lit 312,au)::(nat_lit 314,Xh)::(nat_lit 315,au)::(nat_lit 317,Xg)::(nat_lit 318,Xf)::(nat_lit 319,au)::(nat_lit 321,Xe)::(nat_lit 322,au)::(nat_lit 324,Xd)::(nat_lit 325,Xc)::(nat_lit 326,au)::(nat_lit 328,Xb)::(nat_lit 329,au)::(nat_lit 331,Xa)::(nat_lit 332,W_)::(nat_lit 333,au)::(nat_lit 335,W9)::(nat_lit 336,au)::(nat_lit 338,W8)::(nat_lit 339,W7)::(nat_lit 340,au)::(nat_lit 342,W6)::(nat_lit 343,au)::(nat_lit 345,W5)::(nat_lit 346,W4)::(nat_lit 347,W3)::(nat_lit 348,W2 P)::(nat_lit 349,W0)::(nat_lit 350,WZ)::(nat_lit 351,WY)::(nat_lit 354,au)::(nat_lit 356,WX)::(nat_lit 357,au)::(nat_lit 359,WW)::(nat_lit 360,WV)::(nat_lit 361,au)::(nat_lit 363,WU)::(nat_lit 364,au)::(nat_lit 366,WT)::(nat_lit 367,WR)::(nat_lit 375,au)::(nat_lit 377,WQ)::(nat_lit 378,au)::(nat_lit 380,WO)::(nat_lit 381,WN)::(nat_lit 382,au)::(nat_lit 384,WM)::(nat_lit 385,au)::(nat_lit 387,WL)::(nat_lit 388,WK)::(nat_lit 389,au)::(nat_lit 391,WJ)::(nat_lit 392,au)::(nat_lit 394,WI)::(nat_lit 395,WH)::(nat_lit 396,au)::(nat_lit 398,WG)::(nat_lit 399,au)::(nat_lit 401,WE)::(nat_lit 402,WD)::(nat_lit 403,au)::(nat_lit 405,WC)::(nat_lit 406,au)::(nat_lit 408,WB)::(nat_lit 409,Wz)::(nat_lit 410,au)::(nat_lit 412,Wy)::(nat_lit 413,au)::(nat_lit 415,Wx)::(nat_lit 416,Wv)::(nat_lit 417,Wu)::(nat_lit 418,Wt P)::(nat_lit 419,Wr)::(nat_lit 420,Wq)::(nat_lit 421,Wo)::(nat_lit 431,au)::(nat_lit 433,Wn)::(nat_lit 434,au)::(nat_lit 436,Wm)::(nat_lit 437,Wl)::(nat_lit 438,au)::(nat_lit 440,Wk)::(nat_lit 441,au)::(nat_lit 443,Wj)::(nat_lit 444,Wi)::(nat_lit 445,au)::(nat_lit 447,Wh)::(nat_lit 448,au)::(nat_lit 450,Wf)::(nat_lit 451,We)::(nat_lit 452,au)::(nat_lit 454,Wd)::(nat_lit 455,au)::(nat_lit 457,Wc)::(nat_lit 458,Wa)::(nat_lit 459,au)::(nat_lit 461,V_)::(nat_lit 462,au)::(nat_lit 464,V9)::(nat_lit 465,V8)::(nat_lit 466,au)::(nat_lit 468,V7)::(nat_lit 469,au)::(nat_lit 471,V6)::(nat_lit 472,V5)::(nat_lit 473,au)::(nat_lit 476,V4)::(nat_lit 477,V3)::(nat_lit 478,au)::(nat_lit 481,V2)::(nat_lit 482,V1)::(nat_lit 483,au)::(nat_lit 486,V0)::(nat_lit 487,VZ)::(nat_lit 488,au)::(nat_lit 490,VY)::(nat_lit 491,au)::(nat_lit 493,VX)::(nat_lit 494,VW)::(nat_lit 495,au)::(nat_lit 497,VV)::(nat_lit 498,au)::(nat_lit 500,VU)::(nat_lit 501,VT)::(nat_lit 502,au)::(nat_lit 504,VS)::(nat_lit 505,au)::(nat_lit 507,VR)::(nat_lit 508,VQ)::(nat_lit 509,au)::(nat_lit 511,VP)::(nat_lit 512,au)::(nat_lit 514,VO)::(nat_lit 515,VN)::(nat_lit 516,au)::(nat_lit 518,VM)::(nat_lit 519,au)::(nat_lit 521,VL)::(nat_lit 522,VJ)::(nat_lit 523,au)::(nat_lit 525,VI)::(nat_lit 526,au)::(nat_lit 528,VH)::(nat_lit 529,VG)::(nat_lit 530,au)::(nat_lit 532,VF)::(nat_lit 533,au)::(nat_lit 535,VE)::(nat_lit 536,VD)::(nat_lit 537,au)::(nat_lit 539,VC)::(nat_lit 540,au)::(nat_lit 542,VB)::(nat_lit 543,VA)::(nat_lit 544,au)::(nat_lit 546,Vz)::(nat_lit 547,au)::(nat_lit 549,Vy)::(nat_lit 550,Vx)::(nat_lit 551,au)::(nat_lit 553,Vw)::(nat_lit 554,au)::(nat_lit 556,Vv)::(nat_lit 557,Vu)::(nat_lit 558,Vt)::(nat_lit 559,Vs P)::(nat_lit 560,Vr)::(nat_lit 561,Vq)::(nat_lit 562,Vp)::(nat_lit 572,au)::(nat_lit 574,Vo)::(nat_lit 575,au)::(nat_lit 577,Vn)::(nat_lit 578,Vm)::(nat_lit 579,au)::(nat_lit 581,Vl)::(nat_lit 582,au)::(nat_lit 584,Vk)::(nat_lit 585,Vj)::(nat_lit 586,au)::(nat_lit 588,Vi)::(nat_lit 589,au)::(nat_lit 591,Vh)::(nat_lit 592,Vg)::(nat_lit 593,au)::(nat_lit 595,Vf)::(nat_lit 596,au)::(nat_lit 598,Ve)::(nat_lit 599,Vd)::(nat_lit 600,au)::(nat_lit 602,Vc)::(nat_lit 603,au)::(nat_lit 605,Vb)::(nat_lit 606,Va)::(nat_lit 607,au)::(nat_lit 609,U_)::(nat_lit 610,au)::(nat_lit 612,U9)::(nat_lit 613,U8)::(nat_lit 614,au)::(nat_lit 616,U7)::(nat_lit 617,au)::(nat_lit 619,U6)::(nat_lit 620,U5)::(nat_lit 621,au)::(nat_lit 622,U4 P)::(nat_lit 623,TL)::(nat_lit 624,U3)::(nat_lit 625,U2)::(nat_lit 628,tu)::(nat_lit 635,au)::(nat_lit 637,U1)::(nat_lit 638,au)::(nat_lit 640,U0)::(nat_lit 641,UZ)::(nat_lit 642,au)::(nat_lit 644,UY)::(nat_lit 645,au)::(nat_lit 647,UX)::(nat_lit 648,UW)::(nat_lit 649,au)::(nat_lit 651,UU)::(nat_lit 652,au)::(nat_lit 654,UT)::(nat_lit 655,US)::(nat_lit 656,au)::(nat_lit 657,UR P)::(nat_lit 658,UQ)::(nat_lit 661,tu)::(nat_lit 668,au)::(nat_lit 670,UP)::(nat_lit 671,au)::(nat_lit 673,UO)::(nat_lit 674,UN)::(nat_lit 675,au)::(nat_lit 677,UM)::(nat_lit 678,au)::(nat_lit 680,UL)::(nat_lit 681,UK)::(nat_lit 682,au)::(nat_lit 684,UJ)::(nat_lit 685,au)::(nat_lit 687,UI)::(nat_lit 688,UH)::(nat_lit 689,au)::(nat_lit 691,UG)::(nat_lit 692,au)::(nat_lit 694,UE)::(nat_lit 695,UD)::(nat_lit 696,au)::(nat_lit 697,UC P)::(nat_lit 698,UB)::(nat_lit 701,tu)::(nat_lit 708,au)::(nat_lit 710,UA)::(nat_lit 711,au)::(nat_lit 713,Uz)::(nat_lit 714,Uy)::(nat_lit 715,au)::(nat_lit 717,Ux)::(nat_lit 718,au)::(nat_lit 720,Uw)::(nat_lit 721,Uv)::(nat_lit 722,au)::(nat_lit 724,Uu)::(nat_lit 725,au)::(nat_lit 727,Ut)::(nat_lit 728,Us)::(nat_lit 729,au)::(nat_lit 731,Ur)::(nat_lit 732,au)::(nat_lit 734,Uq)::(nat_lit 735,Up)::(nat_lit 736,au)::(nat_lit 737,Uo P)::(nat_lit 738,Um)::(nat_lit 741,tu)::(nat_lit 748,au)::(nat_lit 750,Ul)::(nat_lit 751,au)::(nat_lit 753,Uk)::(nat_lit 754,Uj)::(nat_lit 755,au)::(nat_lit 757,Ui)::(nat_lit 758,au)::(nat_lit 760,Uh)::(nat_lit 761,Ug)::(nat_lit 762,au)::(nat_lit 764,Ue)::(nat_lit 765,au)::(nat_lit 767,Ud)::(nat_lit 768,Uc)::(nat_lit 769,au)::(nat_lit 770,Ub P)::(nat_lit 771,Ua)::(nat_lit 774,tu)::(nat_lit 781,au)::(nat_lit 783,T_)::(nat_lit 784,au)::(nat_lit 786,T9)::(nat_lit 787,T8)::(nat_lit 788,au)::(nat_lit 790,T7)::(nat_lit 791,au)::(nat_lit 793,T6)::(nat_lit 794,T5)::(nat_lit 795,au)::(nat_lit 797,T4)::(nat_lit 798,au)::(nat_lit 800,T3)::(nat_lit 801,T2)::(nat_lit 802,au)::(nat_lit 803,T1 P)::(nat_lit 804,TZ)::(nat_lit 807,tu)::(nat_lit 814,au)::(nat_lit 816,TY)::(nat_lit 817,au)::(nat_lit 819,TX)::(nat_lit 820,TV)::(nat_lit 821,au)::(nat_lit 823,TU)::(nat_lit 824,au)::(nat_lit 826,TR)::(nat_lit 827,TQ)::(nat_lit 828,au)::(nat_lit 829,TN P)::(nat_lit 830,TM)::(nat_lit 833,tu)::(nat_lit 840,au)::(nat_lit 842,TK)::(nat_lit 843,au)::(nat_lit 845,TJ)::(nat_lit 846,TF)::(nat_lit 847,au)::(nat_lit 849,TC)::(nat_lit 850,au)::(nat_lit 852,TB)::(nat_lit 853,Tz)::(nat_lit 854,au)::(nat_lit 855,Tx P)::(nat_lit 856,Tw)::(nat_lit 866,au)::(nat_lit 868,Tv)::(nat_lit 869,au)::(nat_lit 871,Tu)::(nat_lit 872,Tt)::(nat_lit 873,au)::(nat_lit 875,Ts)::(nat_lit 876,au)::(nat_lit 878,Tr)::(nat_lit 879,Tp)::(nat_lit 880,au)::(nat_lit 882,To)::(nat_lit 883,au)::(nat_lit 885,Tn)::(nat_lit 886,Tj)::(nat_lit 887,au)::(nat_lit 889,Ti)::(nat_lit 890,au)::(nat_lit 892,Th)::(nat_lit 893,Tg)::(nat_lit 894,au)::(nat_lit 897,Tf)::(nat_lit 898,Te)::(nat_lit 899,au)::(nat_lit 901,Td)::(nat_lit 902,au)::(nat_lit 904,Tc)::(nat_lit 905,Tb)::(nat_lit 906,Ta)::(nat_lit 907,S_ P)::(nat_lit 908,S9)::(nat_lit 909,S3)::(nat_lit 910,S0)::(nat_lit 913,SY)::(nat_lit 914,SX)::(nat_lit 915,au)::(nat_lit 918,SW)::(nat_lit 919,SV)::(nat_lit 920,au)::(nat_lit 922,SU)::(nat_lit 923,au)::(nat_lit 925,SS)::(nat_lit 926,SR)::(nat_lit 934,au)::(nat_lit 936,SQ)::(nat_lit 937,au)::(nat_lit 939,SO)::(nat_lit 940,SN)::(nat_lit 941,au)::(nat_lit 943,SM)::(nat_lit 944,au)::(nat_lit 946,SK)::(nat_lit 947,SJ)::(nat_lit 948,au)::(nat_lit 950,SI)::(nat_lit 951,au)::(nat_lit 953,SH)::(nat_lit 954,SG)::(nat_lit 955,au)::(nat_lit 957,SF)::(nat_lit 958,au)::(nat_lit 960,SE)::(nat_lit 961,SD)::(nat_lit 962,au)::(nat_lit 964,OR)::(nat_lit 965,au)::(nat_lit 967,OQ)::(nat_lit 968,OP)::(nat_lit 969,au)::(nat_lit 971,OO)::(nat_lit 972,au)::(nat_lit 974,OM)::(nat_lit 975,OL)::(nat_lit 976,au)::(nat_lit 978,OK)::(nat_lit 979,au)::(nat_lit 981,OJ)::(nat_lit 982,OI)::(nat_lit 983,au)::(nat_lit 985,OH)::(nat_lit 986,au)::(nat_lit 988,OG)::(nat_lit 989,OE)::(nat_lit 990,au)::(nat_lit 992,OD)::(nat_lit 993,au)::(nat_lit 995,OC)::(nat_lit 996,OB)::(nat_lit 997,au)::(nat_lit 999,OA)::(nat_lit 1000,au)::(nat_lit 1002,Oz)::(nat_lit 1003,Oy)::(nat_lit 1004,au)::(nat_lit 1006,Ox)::(nat_lit 1007,au)::(nat_lit 1009,Ow)::(nat_lit 1010,Ov)::(nat_lit 1011,au)::(nat_lit 1013,Ou)::(nat_lit 1014,au)::(nat_lit 1016,Ot)::(nat_lit 1017,Oq)::(nat_lit 1018,au)::(nat_lit 1020,Oo)::(nat_lit 1021,au)::(nat_lit 1023,Om)::(nat_lit 1024,Ol)::(nat_lit 1025,Oj)::(nat_lit 1026,Oi P)::(nat_lit 1027,Oh)::(nat_lit 1028,Og)::(nat_lit 1029,Of)::(nat_lit 1032,au)::(nat_lit 1035,Oe)::(nat_lit 1036,Od)::(nat_lit 1037,au)::(nat_lit 1039,Oc)::(nat_lit 1040,au)::(nat_lit 1042,Oa)::(nat_lit 1043,N_)::(nat_lit 1044,au)::(nat_lit 1046,N9)::(nat_lit 1047,au)::(nat_lit 1049,N8)::(nat_lit 1050,N7)::(nat_lit 1051,au)::(nat_lit 1054,N6)::(nat_lit 1055,N5)::(nat_lit 1056,au)::(nat_lit 1058,N4)::(nat_lit 1059,au)::(nat_lit 1061,N3)::(nat_lit 1062,N2)::(nat_lit 1070,au)::(nat_lit 1072,N1)::(nat_lit 1073,au)::(nat_lit 1075,N0)::(nat_lit 1076,NZ)::(nat_lit 1077,au)::(nat_lit 1079,NY)::(nat_lit 1080,au)::(nat_lit 1082,NX)::(nat_lit 1083,NW)::(nat_lit 1084,au)::(nat_lit 1087,NV)::(nat_lit 1088,NU)::(nat_lit 1089,au)::(nat_lit 1091,NT)::(nat_lit 1092,au)::(nat_lit 1094,NS)::(nat_lit 1095,NR)::(nat_lit 1096,NQ)::(nat_lit 1097,NP P)::(nat_lit 1098,NO)::(nat_lit 1099,NN)::(nat_lit 1100,NM)::(nat_lit 1103,NL)::(nat_lit 1104,au)::(nat_lit 1106,NK)::(nat_lit 1107,au)::(nat_lit 1109,NJ)::(nat_lit 1110,NI)::(nat_lit 1111,au)::(nat_lit 1113,NH)::(nat_lit 1114,au)::(nat_lit 1116,NG)::(nat_lit 1117,NF)::(nat_lit 1118,au)::(nat_lit 1120,ND)::(nat_lit 1121,au)::(nat_lit 1123,NC)::(nat_lit 1124,NB)::(nat_lit 1125,au)::(nat_lit 1128,NA)::(nat_lit 1129,Nz)::(nat_lit 1130,au)::(nat_lit 1132,Ny)::(nat_lit 1133,au)::(nat_lit 1135,Nw)::(nat_lit 1136,Nv)::(nat_lit 1144,au)::(nat_lit 1146,Nu)::(nat_lit 1147,au)::(nat_lit 1149,Nt)::(nat_lit 1150,Nr)::(nat_lit 1151,au)::(nat_lit 1153,Nq)::(nat_lit 1154,au)::(nat_lit 1156,Np)::(nat_lit 1157,Nn)::(nat_lit 1158,au)::(nat_lit 1160,Nm)::(nat_lit 1161,au)::(nat_lit 1163,Nl)::(nat_lit 1164,Nk)::(nat_lit 1165,au)::(nat_lit 1167,Nj)::(nat_lit 1168,au)::(nat_lit 1170,Ni)::(nat_lit 1171,Nh)::(nat_lit 1172,au)::(nat_lit 1174,Ng)::(nat_lit 1175,au)::(nat_lit 1177,Nf)::(nat_lit 1178,Nd)::(nat_lit 1179,au)::(nat_lit 1181,Nc)::(nat_lit 1182,au)::(nat_lit 1184,Nb)::(nat_lit 1185,Na)::(nat_lit 1186,au)::(nat_lit 1188,M_)::(nat_lit 1189,au)::(nat_lit 1191,M9)::(nat_lit 1192,M8)::(nat_lit 1193,au)::(nat_lit 1195,M7)::(nat_lit 1196,au)::(nat_lit 1198,M6)::(nat_lit 1199,M5)::(nat_lit 1200,au)::(nat_lit 1202,M4)::(nat_lit 1203,au)::(nat_lit 1205,M3)::(nat_lit 1206,M1)::(nat_lit 1207,au)::(nat_lit 1209,M0)::(nat_lit 1210,au)::(nat_lit 1212,MZ)::(nat_lit 1213,MY)::(nat_lit 1214,au)::(nat_lit 1217,MX)::(nat_lit 1218,MW)::(nat_lit 1219,au)::(nat_lit 1221,MV)::(nat_lit 1222,au)::(nat_lit 1224,MU)::(nat_lit 1225,MT)::(nat_lit 1226,au)::(nat_lit 1228,MR)::(nat_lit 1229,au)::(nat_lit 1231,MQ)::(nat_lit 1232,MP)::(nat_lit 1233,au)::(nat_lit 1236,MO)::(nat_lit 1237,MN)::(nat_lit 1238,au)::(nat_lit 1241,MM)::(nat_lit 1242,ML)::(nat_lit 1243,au)::(nat_lit 1245,MK)::(nat_lit 1246,au)::(nat_lit 1248,MJ)::(nat_lit 1249,MI)::(nat_lit 1250,MH)::(nat_lit 1251,MG P)::(nat_lit 1252,MF)::(nat_lit 1253,ME)::(nat_lit 1254,MD)::(nat_lit 1257,au)::(nat_lit 1259,MB)::(nat_lit 1260,au)::(nat_lit 1262,MA)::(nat_lit 1263,Mz)::(nat_lit 1264,au)::(nat_lit 1267,My)::(nat_lit 1268,Mx)::(nat_lit 1269,au)::(nat_lit 1271,Mw)::(nat_lit 1272,au)::(nat_lit 1274,Mv)::(nat_lit 1275,Mu)::(nat_lit 1283,au)::(nat_lit 1286,Mt)::(nat_lit 1287,Ms)::(nat_lit 1288,Mr)::(nat_lit 1289,Mq P)::(nat_lit 1290,Mp)::(nat_lit 1291,Mo)::(nat_lit 1292,Mn)::(nat_lit 1295,au)::(nat_lit 1297,Mm)::(nat_lit 1298,au)::(nat_lit 1300,Ml)::(nat_lit 1301,Mj)::(nat_lit 1302,au)::(nat_lit 1304,Mi)::(nat_lit 1305,au)::(nat_lit 1307,Mh)::(nat_lit 1308,Mg)::(nat_lit 1309,au)::(nat_lit 1312,Mf)::(nat_lit 1313,Me)::(nat_lit 1314,au)::(nat_lit 1316,Md)::(nat_lit 1317,au)::(nat_lit 1319,Mc)::(nat_lit 1320,Mb)::(nat_lit 1321,au)::(nat_lit 1323,Ma)::(nat_lit 1324,au)::(nat_lit 1326,L_)::(nat_lit 1327,L9)::(nat_lit 1328,au)::(nat_lit 1330,L8)::(nat_lit 1331,au)::(nat_lit 1333,L7)::(nat_lit 1334,L6)::(nat_lit 1335,au)::(nat_lit 1337,LZ)::(nat_lit 1338,au)::(nat_lit 1340,LY)::(nat_lit 1341,LX)::(nat_lit 1342,au)::(nat_lit 1344,LW)::(nat_lit 1345,au)::(nat_lit 1347,LV)::(nat_lit 1348,LU)::(nat_lit 1349,au)::(nat_lit 1352,LS)::(nat_lit 1353,LR)::[]
def cN:Program:={Challenge.pw_slowroad_k70_bad_wishes with main:={Challenge.pw_slowroad_k70_bad_wishes.main with body:=[top 0,top 2,top 4,top 5,top 6,top 7,top 8,top 9,top 10,top 11,top 12,top 13,top 15,top 16,top 17,top 18,top 19,top 20,top 21,top 22,top 23,top 24,top 25,top 26,top 27,top 28,top 29,top 30,top 31,top 32,top 33,top 34,top 35,top 36,top 37,top 38,top 39,top 40,top 41,top 42,top 43,top 45,top 47,top 49,top 50,top 51,top 53,top 54,top 56,top 57,top 58,top 59,top 60,top 61,top 62,top 63,top 65,top 67,top 68,top 69,top 70,top 71,top 72,top 74,top 75,top 76,top 77,top 78,top 79,top 80,top 81,top 82,top 83,top 84,top 86,top 87,top 88,top 89,top 90,top 91,top 92,top 93,top 94,top 95,top 97,top 99,top 100,top 101,top 102,top 103,top 104,top 105,top 106,top 108,top 109,top 110,top 111,top 112,top 113,top 114,top 115,top 116]}}
def ft:List Addr:=[2,3,15,17,18,20,21,22,24,25,27,28,29,36,37,38,39,42,49,51,52,54,55,56,57,58,61,68,70,71,73,74,75,76,77,80,87,89,90,92,93,94,95,96,99,106,108,109,111,112,113,114,115,118,125,126,127,130,137,139,140,142,143,144,145,146,149,156,157,158,161,168,170,171,173,174,175,176,177,180,187,189,190,192,193,194,195,196,199,200,201,203,204,206,207,208,210,211,213,214,215,218,219,220,222,223,225,226,227,229,230,232,233,234,236,237,239,240,241,244,245,246,248,249,251,252,253,255,256,258,259,260,262,263,265,266,267,269,270,272,273,274,276,277,279,280,281,284,285,286,289,290,291,293,294,296,297,305,307,308,310,311,312,314,315,317,318,319,321,322,324,325,326,328,329,331,332,333,335,336,338,339,340,342,343,345,346,347,348,349,350,351,354,356,357,359,360,361,363,364,366,367,375,377,378,380,381,382,384,385,387,388,389,391,392,394,395,396,398,399,401,402,403,405,406,408,409,410,412,413,415,416,417,418,419,420,421,431,433,434,436,437,438,440,441,443,444,445,447,448,450,451,452,454,455,457,458,459,461,462,464,465,466,468,469,471,472,473,476,477,478,481,482,483,486,487,488,490,491,493,494,495,497,498,500,501,502,504,505,507,508,509,511,512,514,515,516,518,519,521,522,523,525,526,528,529,530,532,533,535,536,537,539,540,542,543,544,546,547,549,550,551,553,554,556,557,558,559,560,561,562,572,574,575,577,578,579,581,582,584,585,586,588,589,591,592,593,595,596,598,599,600,602,603,605,606,607,609,610,612,613,614,616,617,619,620,621,622,623,624,625,628,635,637,638,640,641,642,644,645,647,648,649,651,652,654,655,656,657,658,661,668,670,671,673,674,675,677,678,680,681,682,684,685,687,688,689,691,692,694,695,696,697,698,701,708,710,711,713,714,715,717,718,720,721,722,724,725,727,728,729,731,732,734,735,736,737,738,741,748,750,751,753,754,755,757,758,760,761,762,764,765,767,768,769,770,771,774,781,783,784,786,787,788,790,791,793,794,795,797,798,800,801,802,803,804,807,814,816,817,819,820,821,823,824,826,827,828,829,830,833,840,842,843,845,846,847,849,850,852,853,854,855,856,866,868,869,871,872,873,875,876,878,879,880,882,883,885,886,887,889,890,892,893,894,897,898,899,901,902,904,905,906,907,908,909,910,913,914,915,918,919,920,922,923,925,926,934,936,937,939,940,941,943,944,946,947,948,950,951,953,954,955,957,958,960,961,962,964,965,967,968,969,971,972,974,975,976,978,979,981,982,983,985,986,988,989,990,992,993,995,996,997,999,1000,1002,1003,1004,1006,1007,1009,1010,1011,1013,1014,1016,1017,1018,1020,1021,1023,1024,1025,1026,1027,1028,1029,1032,1035,1036,1037,1039,1040,1042,1043,1044,1046,1047,1049,1050,1051,1054,1055,1056,1058,1059,1061,1062,1070,1072,1073,1075,1076,1077,1079,1080,1082,1083,1084,1087,1088,1089,1091,1092,1094,1095,1096,1097,1098,1099,1100,1103,1104,1106,1107,1109,1110,1111,1113,1114,1116,1117,1118,1120,1121,1123,1124,1125,1128,1129,1130,1132,1133,1135,1136,1144,1146,1147,1149,1150,1151,1153,1154,1156,1157,1158,1160,1161,1163,1164,1165,1167,1168,1170,1171,1172,1174,1175,1177,1178,1179,1181,1182,1184,1185,1186,1188,1189,1191,1192,1193,1195,1196,1198,1199,1200,1202,1203,1205,1206,1207,1209,1210,1212,1213,1214,1217,1218,1219,1221,1222,1224,1225,1226,1228,1229,1231,1232,1233,1236,1237,1238,1241,1242,1243,1245,1246,1248,1249,1250,1251,1252,1253,1254,1257,1259,1260,1262,1263,1264,1267,1268,1269,1271,1272,1274,1275,1283,1286,1287,1288,1289,1290,1291,1292,1295,1297,1298,1300,1301,1302,1304,1305,1307,1308,1309,1312,1313,1314,1316,1317,1319,1320,1321,1323,1324,1326,1327,1328,1330,1331,1333,1334,1335,1337,1338,1340,1341,1342,1344,1345,1347,1348,1349,1352,1353]
theorem tw: ∀P,ft=(Aw P).map (·.1):=fun _=>by kernel_rfl
def dr:Env:={scope:=Challenge.rw_slowroad_k70_bad_wishes.row.prog.main.scope,locals:=mainNs,globals:=mainNs,cells:=[],code:=Value.ref 13,frame:=some 14}
def bV:List Stmt:=behindTheImports Challenge.rw_slowroad_k70_bad_wishes.row.prog
def mJ:Code:= .body bV dr
abbrev yz:List Frame:=[topFrame (Pos.mk 0 0 0 0)]
abbrev hdn:Option Value:=Option.some (Value.ref 6)
def hpre:Params→Heap:=fun P=>⟨Array.mk [boot_o_0 P,boot_o_1 P,boot_o_2 P,boot_o_3 P,boot_o_4 P,boot_o_5 P,boot_o_6 P,boot_o_7 P,boot_o_8 P,boot_o_9 P,boot_o_10 P,au,bB,o13,o14],Life.mk List.nil List.nil List.nil 0 List.nil List.nil Bool.false (List.toArray List.nil) List.nil 0 Bool.false Bool.false Bool.false 0 (List.cons 2000 (List.cons 10 (List.cons 10 List.nil))) Bool.false 0 Bool.true List.nil List.nil 0 Bool.false⟩
theorem QU (w:World) (os:OsState):topGo treeTable Challenge.rw_slowroad_k70_bad_wishes.row.prog w 11 hdn 12 (⟨boot_heap w.params,Array.mk [],boot_drawn,boot_toks,os⟩:Shared) (topStub Challenge.rw_slowroad_k70_bad_wishes.row.prog)=some ((⟨hpre w.params,Array.mk [],Drawn.mk 0 0 0 0,187,os⟩:Shared),⟨denote treeTable mJ,mJ,Pos.mk 0 0 0 0,yz⟩):=by kernel_rfl
def CJ (P:Pm):BT:=up [boot_o_0 P,boot_o_1 P,boot_o_2 P,boot_o_3 P,boot_o_4 P,boot_o_5 P,boot_o_6 P,boot_o_7 P,boot_o_8 P,boot_o_9 P,boot_o_10 P,au,bB,o13,o14] .nil 0
abbrev lif:Life:=Life.mk List.nil List.nil List.nil 0 List.nil List.nil Bool.false (List.toArray List.nil) List.nil 0 Bool.false Bool.false Bool.false 0 (List.cons 2000 (List.cons 10 (List.cons 10 List.nil))) Bool.false 0 Bool.true List.nil List.nil 0 Bool.false
abbrev yy (w:World) (os:OsState):SharedT:=SharedT.mk (CJ w.params) 15 lif (Array.mk []) (Drawn.mk 0 0 0 0) 187 os
theorem Rf (w:World) (os:OsState):segRun treeTable Challenge.rw_slowroad_k70_bad_wishes.row.prog w 11 hdn 1 1 (⟨hpre w.params,Array.mk [],Drawn.mk 0 0 0 0,187,os⟩:Shared) (blockOf bV dr mJ (Pos.mk 0 0 0 0) yz)=some (.next,((yy w os)).abs,mJ,Pos.mk 0 0 0 0):=by kernel_rfl
def O2 (P:Pm):BT:=up [au,bB,o19,au,o21,o22,o23,au,bB,o26,au,o28,o29,o30,o31,wa,o33 P,au,bB,o36,o37,au,o39 P,o40,o41,o42,o43,Cc,wa,o46 P,au,o48,o49,o50,au,bB,o53,au,o55,o56,o57,o58,o59 P,o60,o61,o62] (ch [(3,o15 P),(12,o16)] (CJ P)) 15
abbrev O4 (w:World) (os:OsState):SharedT:=SharedT.mk (O2 w.params) 61 lif (Array.mk []) (Drawn.mk 0 0 0 0) 250 os
def hg6:List Stmt:=(bV.drop 0).take 6
theorem aaJ (w:World) (os:OsState):segRunT treeTable Challenge.rw_slowroad_k70_bad_wishes.row.prog w 11 hdn 1 510 (yy w os) (piecesOf hg6 dr mJ (Pos.mk 0 0 0 0) yz)=some (.next,(O4 w os),mJ,Pos.mk 10 0 13 26):=by kernel_rfl
def O1 (P:Pm):BT:=up [Cc,wa,o68 P,au,o70,o71,o72,au,bB,o75,au,o77,o78,o79,o80,o81 P,o82,o83,o84,Cc,wa,o87 P,au,o89,o90,o91,au,bB,o94,au,o96,o97,o98,o99,ZY P,ZW,afs,afr] (ch [(3,o63 P),(12,o64),(38,o65)] (O2 P)) 61
abbrev O3 (w:World) (os:OsState):SharedT:=SharedT.mk (O1 w.params) 99 lif (Array.mk []) (Drawn.mk 0 0 0 0) 300 os
def hg8:List Stmt:=(bV.drop 6).take 2
theorem aaI (w:World) (os:OsState):segRunT treeTable Challenge.rw_slowroad_k70_bad_wishes.row.prog w 11 hdn 1 491 (O4 w os) (piecesOf hg8 dr mJ (Pos.mk 10 0 13 26) yz)=some (.next,(O3 w os),mJ,Pos.mk 18 0 21 24):=by kernel_rfl
def IW (P:Pm):BT:=up [Cc,wa,afn P,au,afm,afl,afk,au,bB,Zr,au,afj,Zf,Zc,Za,Y9 P,Y6,afi,afh,Cc,wa,afg P,au,bB,aff,afe,au,YI P,YF,afd,afc] (ch [(3,afq P),(12,afp),(38,afo)] (O1 P)) 99
abbrev Jk (w:World) (os:OsState):SharedT:=SharedT.mk (IW w.params) 130 lif (Array.mk []) (Drawn.mk 0 0 0 0) 341 os
def aak:List Stmt:=(bV.drop 8).take 2
theorem Q_ (w:World) (os:OsState):segRunT treeTable Challenge.rw_slowroad_k70_bad_wishes.row.prog w 11 hdn 1 459 (O3 w os) (piecesOf aak dr mJ (Pos.mk 18 0 21 24) yz)=some (.next,(Jk w os),mJ,Pos.mk 26 0 27 8):=by kernel_rfl
def IV (P:Pm):BT:=up [Cc,wa,ae9 P,au,ae8,ae7,ae6,au,bB,Yw,au,ae5,Yv,Yu,Yt,Ys P,Yr,ae4,ae3,Cc,wa,ae2 P,au,bB,ae1,ae0,au,Yq P,Yp,aeZ,aeY] (ch [(3,afb P),(12,afa),(38,ae_)] (IW P)) 130
abbrev Jj (w:World) (os:OsState):SharedT:=SharedT.mk (IV w.params) 161 lif (Array.mk []) (Drawn.mk 0 0 0 0) 382 os
def aaj:List Stmt:=(bV.drop 10).take 2
theorem Q9 (w:World) (os:OsState):segRunT treeTable Challenge.rw_slowroad_k70_bad_wishes.row.prog w 11 hdn 1 459 (Jk w os) (piecesOf aaj dr mJ (Pos.mk 26 0 27 8) yz)=some (.next,(Jj w os),mJ,Pos.mk 32 0 33 8):=by kernel_rfl
def IU (P:Pm):BT:=up [Cc,wa,aeV P,au,aeU,aeT,aeS,au,bB,Yn,au,aeR,Ym,Yl,Yk,Yj P,Yi,aeQ,aeP,Cc,wa,aeO P,au,aeN,aeM,aeL,au,bB,Yh,au,aeK,Yg,Ye,Yd,Yc P,Yb,aeJ,aeI,X_,X9,au,bB,X8,au,aeH,X7,X6,au,bB,X4,au,aeG,X0,XZ] (ch [(3,aeX P),(12,aeW),(38,Yo)] (IV P)) 161
abbrev Ji (w:World) (os:OsState):SharedT:=SharedT.mk (IU w.params) 215 lif (Array.mk []) (Drawn.mk 0 0 0 0) 486 os
def aai:List Stmt:=(bV.drop 12).take 19
theorem Q8 (w:World) (os:OsState):segRunT treeTable Challenge.rw_slowroad_k70_bad_wishes.row.prog w 11 hdn 1 698 (Jj w os) (piecesOf aai dr mJ (Pos.mk 32 0 33 8) yz)=some (.next,(Ji w os),mJ,Pos.mk 63 0 71 15):=by kernel_rfl
def IT (P:Pm):BT:=up [au,bB,aeD,XY,XX,au,bB,XW,au,aeC,XU,XT,au,bB,XS,au,aeB,XR,XQ,au,bB,XO,au,aeA,XN,XM,au,bB,aez,XJ,XI,au,bB,XH,au,aey,XG,XF,au,bB,XE,au,aex,XD,XC,au,bB,XB,au,aew,XA,Xz,au,bB,Xy,au,aev,Xx,Xw,au,bB,Xv,au,aeu,Xu,Xs,au,bB,aet,Xr,Xq,au,bB,aes,Xp,Xo,au,bB,Xn,au,aer,Xm,Xl] (ch [(3,aeF P),(12,aeE)] (IU P)) 215
abbrev Jh (w:World) (os:OsState):SharedT:=SharedT.mk (IT w.params) 298 lif (Array.mk []) (Drawn.mk 0 0 0 0) 581 os
def aah:List Stmt:=(bV.drop 31).take 14
theorem Q7 (w:World) (os:OsState):segRunT treeTable Challenge.rw_slowroad_k70_bad_wishes.row.prog w 11 hdn 1 381 (Ji w os) (piecesOf aah dr mJ (Pos.mk 63 0 71 15) yz)=some (.next,(Jh w os),mJ,Pos.mk 124 0 124 8):=by kernel_rfl
def IS (P:Pm):BT:=up [au,wa,aeo P,au,aen,aem,ael,au,bB,Xk,au,aek,Xj,Xi,au,bB,Xh,au,aej,Xg,Xf,au,bB,Xe,au,aei,Xd,Xc,au,bB,Xb,au,aeh,Xa,W_,au,bB,W9,au,aeg,W8,W7,au,bB,W6,au,aef,W5,W4,W3,W2 P,W0,WZ,WY,aee,aed,au,bB,WX,au,aec,WW,WV,au,bB,WU,au,aeb,WT,WR] (ch [(3,aeq P),(12,aep)] (IT P)) 298
abbrev Jg (w:World) (os:OsState):SharedT:=SharedT.mk (IS w.params) 368 lif (Array.mk []) (Drawn.mk 0 0 0 0) 674 os
def aag:List Stmt:=(bV.drop 45).take 6
theorem Q6 (w:World) (os:OsState):segRunT treeTable Challenge.rw_slowroad_k70_bad_wishes.row.prog w 11 hdn 1 472 (Jh w os) (piecesOf aag dr mJ (Pos.mk 124 0 124 8) yz)=some (.next,(Jg w os),mJ,Pos.mk 165 0 167 44):=by kernel_rfl
def IQ (P:Pm):BT:=up [au,wa,ad9 P,au,ad8,ad7,ad6,au,bB,WQ,au,ad5,WO,WN,au,bB,WM,au,ad4,WL,WK,au,bB,WJ,au,ad3,WI,WH,au,bB,WG,au,ad2,WE,WD,au,bB,WC,au,ad1,WB,Wz,au,bB,Wy,au,ad0,Wx,Wv,Wu,Wt P,Wr,Wq,Wo,adZ,adY] (ch [(3,aea P),(12,ad_)] (IS P)) 368
abbrev Jf (w:World) (os:OsState):SharedT:=SharedT.mk (IQ w.params) 424 lif (Array.mk []) (Drawn.mk 0 0 0 0) 752 os
def aaf:List Stmt:=(bV.drop 51).take 3
theorem Q5 (w:World) (os:OsState):segRunT treeTable Challenge.rw_slowroad_k70_bad_wishes.row.prog w 11 hdn 1 406 (Jg w os) (piecesOf aaf dr mJ (Pos.mk 165 0 167 44) yz)=some (.next,(Jf w os),mJ,Pos.mk 200 0 200 14):=by kernel_rfl
def IP (P:Pm):BT:=up [au,wa,adV P,au,adU,adT,adS,au,bB,Wn,au,adR,Wm,Wl,au,bB,Wk,au,adQ,Wj,Wi,au,bB,Wh,au,adP,Wf,We,au,bB,Wd,au,adO,Wc,Wa,au,bB,V_,au,adN,V9,V8,au,bB,V7,au,adM,V6,V5,au,bB,adL,V4,V3,au,bB,adK,V2,V1,au,bB,adJ,V0,VZ,au,bB,VY,au,adI,VX,VW,au,bB,VV,au,adH,VU,VT,au,bB,VS,au,adG,VR,VQ,au,bB,VP,au,adF,VO,VN,au,bB,VM,au,adE,VL,VJ,au,bB,VI,au,adD,VH,VG,au,bB,VF,au,adC,VE,VD,au,bB,VC,au,adB,VB,VA,au,bB,Vz,au,adA,Vy,Vx,au,bB,Vw,au,adz,Vv,Vu,Vt,Vs P,Vr,Vq,Vp,ady,adx] (ch [(3,adX P),(12,adW)] (IQ P)) 424
abbrev Je (w:World) (os:OsState):SharedT:=SharedT.mk (IP w.params) 565 lif (Array.mk []) (Drawn.mk 0 0 0 0) 936 os
def aae:List Stmt:=(bV.drop 54).take 1
theorem Q4 (w:World) (os:OsState):segRunT treeTable Challenge.rw_slowroad_k70_bad_wishes.row.prog w 11 hdn 1 804 (Jf w os) (piecesOf aae dr mJ (Pos.mk 200 0 200 14) yz)=some (.next,(Je w os),mJ,Pos.mk 201 0 312 28):=by kernel_rfl
def IM (P:Pm):BT:=up [au,wa,adu P,au,adt,ads,adq,au,bB,Vo,au,adp,Vn,Vm,au,bB,Vl,au,ado,Vk,Vj,au,bB,Vi,au,adn,Vh,Vg,au,bB,Vf,au,adm,Ve,Vd,au,bB,Vc,au,adl,Vb,Va,au,bB,U_,au,adk,U9,U8,au,bB,U7,au,adj,U6,U5,au,U4 P,adi,U3,U2,adh,adg] (ch [(3,adw P),(12,adv)] (IP P)) 565
abbrev Jd (w:World) (os:OsState):SharedT:=SharedT.mk (IM w.params) 628 lif (Array.mk []) (Drawn.mk 0 0 0 0) 1007 os
def aad:List Stmt:=(bV.drop 55).take 2
theorem Q3 (w:World) (os:OsState):segRunT treeTable Challenge.rw_slowroad_k70_bad_wishes.row.prog w 11 hdn 1 416 (Je w os) (piecesOf aad dr mJ (Pos.mk 201 0 312 28) yz)=some (.next,(Jd w os),mJ,Pos.mk 314 0 335 19):=by kernel_rfl
def IL (P:Pm):BT:=up [tu,wa,ada P,au,ac_,ac9,ac8,au,bB,U1,au,ac7,U0,UZ,au,bB,UY,au,ac6,UX,UW,au,bB,UU,au,ac5,UT,US,au,UR P,UQ,ac4,ac3,tu,wa,ac2 P,au,ac1,ac0,acZ,au,bB,UP,au,acY,UO,UN,au,bB,UM,au,acX,UL,UK,au,bB,UJ,au,acW,UI,UH,au,bB,UG,au,acV,UE,UD,au,UC P,UB,acU,acT] (ch [(3,adf P),(12,ade),(623,adb)] (IM P)) 628
abbrev Jc (w:World) (os:OsState):SharedT:=SharedT.mk (IL w.params) 701 lif (Array.mk []) (Drawn.mk 0 0 0 0) 1088 os
def aac:List Stmt:=(bV.drop 57).take 2
theorem Q2 (w:World) (os:OsState):segRunT treeTable Challenge.rw_slowroad_k70_bad_wishes.row.prog w 11 hdn 1 642 (Jd w os) (piecesOf aac dr mJ (Pos.mk 314 0 335 19) yz)=some (.next,(Jc w os),mJ,Pos.mk 346 0 358 21):=by kernel_rfl
def IK (P:Pm):BT:=up [tu,wa,acP P,au,acO,acN,acM,au,bB,UA,au,acL,Uz,Uy,au,bB,Ux,au,acK,Uw,Uv,au,bB,Uu,au,acJ,Ut,Us,au,bB,Ur,au,acI,Uq,Up,au,Uo P,Um,acH,acG,tu,wa,acF P,au,acE,acD,acC,au,bB,Ul,au,acB,Uk,Uj,au,bB,Ui,au,acA,Uh,Ug,au,bB,Ue,au,acz,Ud,Uc,au,Ub P,Ua,acy,acx] (ch [(3,acS P),(12,acR),(623,acQ)] (IL P)) 701
abbrev Jb (w:World) (os:OsState):SharedT:=SharedT.mk (IK w.params) 774 lif (Array.mk []) (Drawn.mk 0 0 0 0) 1169 os
def aab:List Stmt:=(bV.drop 59).take 2
theorem Q1 (w:World) (os:OsState):segRunT treeTable Challenge.rw_slowroad_k70_bad_wishes.row.prog w 11 hdn 1 642 (Jc w os) (piecesOf aab dr mJ (Pos.mk 346 0 358 21) yz)=some (.next,(Jb w os),mJ,Pos.mk 372 0 381 19):=by kernel_rfl
def IJ (P:Pm):BT:=up [tu,wa,acs P,au,acr,acq,acp,au,bB,T_,au,aco,T9,T8,au,bB,T7,au,acn,T6,T5,au,bB,T4,au,acm,T3,T2,au,T1 P,TZ,ack,acj,tu,wa,aci P,au,ach,acg,acf,au,bB,TY,au,ace,TX,TV,au,bB,TU,au,acd,TR,TQ,au,TN P,TM,acb,aca] (ch [(3,acw P),(12,acv),(623,acu)] (IK P)) 774
abbrev Ja (w:World) (os:OsState):SharedT:=SharedT.mk (IJ w.params) 833 lif (Array.mk []) (Drawn.mk 0 0 0 0) 1236 os
def aaa:List Stmt:=(bV.drop 61).take 2
theorem Q0 (w:World) (os:OsState):segRunT treeTable Challenge.rw_slowroad_k70_bad_wishes.row.prog w 11 hdn 1 580 (Jb w os) (piecesOf aaa dr mJ (Pos.mk 372 0 381 19) yz)=some (.next,(Ja w os),mJ,Pos.mk 392 0 398 21):=by kernel_rfl
def II (P:Pm):BT:=up [tu,wa,ab8 P,au,ab7,ab6,ab5,au,bB,TK,au,ab4,TJ,TF,au,bB,TC,au,ab3,TB,Tz,au,Tx P,Tw,ab2,ab1,au,wa,ab0 P,au,abZ,abY,abX,au,bB,Tv,au,abW,Tu,Tt,au,bB,Ts,au,abV,Tr,Tp,au,bB,To,au,abU,Tn,Tj,au,bB,Ti,au,abT,Th,Tg,au,bB,abS,Tf,Te,au,bB,Td,au,abR,Tc,Tb,Ta,S_ P,S9,S3,S0,abQ,abP,SY] (ch [(3,ab_ P),(12,ab9),(623,TL)] (IJ P)) 833
abbrev I_ (w:World) (os:OsState):SharedT:=SharedT.mk (II w.params) 914 lif (Array.mk []) (Drawn.mk 0 0 0 0) 1351 os
def Z_:List Stmt:=(bV.drop 63).take 6
theorem QZ (w:World) (os:OsState):segRunT treeTable Challenge.rw_slowroad_k70_bad_wishes.row.prog w 11 hdn 1 701 (Ja w os) (piecesOf Z_ dr mJ (Pos.mk 392 0 398 21) yz)=some (.next,(I_ w os),mJ,Pos.mk 447 0 447 5):=by kernel_rfl
def IH (P:Pm):BT:=up [SX,au,bB,abM,SW,SV,au,bB,SU,au,abL,SS,SR,au,wa,abK P,au,abJ,abI,abH,au,bB,SQ,au,abG,SO,SN,au,bB,SM,au,abF,SK,SJ,au,bB,SI,au,abE,SH,SG,au,bB,SF,au,abD,SE,SD,au,bB,OR,au,ZX,OQ,OP,au,bB,OO,au,ZV,OM,OL,au,bB,OK,au,ZU,OJ,OI,au,bB,OH,au,ZT,OG,OE,au,bB,OD,au,ZS,OC,OB,au,bB,OA,au,ZR,Oz,Oy,au,bB,Ox,au,ZQ,Ow,Ov,au,bB,Ou,au,ZP,Ot,Oq,au,bB,Oo,au,ZO,Om,Ol,Oj,Oi P,Oh,Og,Of,ZN,ZM] (ch [(3,abO P),(12,abN)] (II P)) 914
abbrev I0 (w:World) (os:OsState):SharedT:=SharedT.mk (IH w.params) 1032 lif (Array.mk []) (Drawn.mk 0 0 0 0) 1512 os
def Z9:List Stmt:=(bV.drop 69).take 4
theorem QY (w:World) (os:OsState):segRunT treeTable Challenge.rw_slowroad_k70_bad_wishes.row.prog w 11 hdn 1 694 (I_ w os) (piecesOf Z9 dr mJ (Pos.mk 447 0 447 5) yz)=some (.next,(I0 w os),mJ,Pos.mk 456 0 544 98):=by kernel_rfl
def IG (P:Pm):BT:=up [au,bB,ZJ,Oe,Od,au,bB,Oc,au,ZI,Oa,N_,au,bB,N9,au,ZH,N8,N7,au,bB,ZG,N6,N5,au,bB,N4,au,ZF,N3,N2,au,wa,ZE P,au,ZD,ZC,ZA,au,bB,N1,au,Zz,N0,NZ,au,bB,NY,au,Zy,NX,NW,au,bB,Zx,NV,NU,au,bB,NT,au,Zw,NS,NR,NQ,NP P,NO,NN,NM,Zv,Zu,NL,au,bB,NK,au,Zt,NJ,NI,au,bB,NH,au,Zs,NG,NF,au,bB,ND,au,Zq,NC,NB,au,bB,Zp,NA,Nz] (ch [(3,ZL P),(12,ZK)] (IH P)) 1032
abbrev IZ (w:World) (os:OsState):SharedT:=SharedT.mk (IG w.params) 1130 lif (Array.mk []) (Drawn.mk 0 0 0 0) 1660 os
def Z8:List Stmt:=(bV.drop 73).take 21
theorem QX (w:World) (os:OsState):segRunT treeTable Challenge.rw_slowroad_k70_bad_wishes.row.prog w 11 hdn 1 683 (I0 w os) (piecesOf Z8 dr mJ (Pos.mk 456 0 544 98) yz)=some (.next,(IZ w os),mJ,Pos.mk 606 0 607 56):=by kernel_rfl
def IF (P:Pm):BT:=up [au,bB,Ny,au,Zm,Nw,Nv] (ch [(3,Zo P),(12,Zn)] (IG P)) 1130
abbrev IY (w:World) (os:OsState):SharedT:=SharedT.mk (IF w.params) 1137 lif (Array.mk []) (Drawn.mk 0 0 0 0) 1667 os
def Z7:List Stmt:=(bV.drop 94).take 1
theorem QW (w:World) (os:OsState):segRunT treeTable Challenge.rw_slowroad_k70_bad_wishes.row.prog w 11 hdn 1 30 (IZ w os) (piecesOf Z7 dr mJ (Pos.mk 606 0 607 56) yz)=some (.next,(IY w os),mJ,Pos.mk 608 0 609 78):=by kernel_rfl
def IE (P:Pm):BT:=up [au,wa,Zj P,au,Zi,Zh,Zg,au,bB,Nu,au,Ze,Nt,Nr,au,bB,Nq,au,Zd,Np,Nn,au,bB,Nm,au,Zb,Nl,Nk,au,bB,Nj,au,Y_,Ni,Nh,au,bB,Ng,au,Y8,Nf,Nd,au,bB,Nc,au,Y7,Nb,Na,au,bB,M_,au,Y5,M9,M8,au,bB,M7,au,Y4,M6,M5,au,bB,M4,au,Y3,M3,M1,au,bB,M0,au,Y2,MZ,MY,au,bB,Y1,MX,MW,au,bB,MV,au,Y0,MU,MT,au,bB,MR,au,YZ,MQ,MP,au,bB,YY,MO,MN,au,bB,YX,MM,ML,au,bB,MK,au,YW,MJ,MI,MH,MG P,MF,ME,MD,YV,YU] (ch [(3,Zl P),(12,Zk)] (IF P)) 1137
abbrev IX (w:World) (os:OsState):SharedT:=SharedT.mk (IE w.params) 1257 lif (Array.mk []) (Drawn.mk 0 0 0 0) 1841 os
def Z6:List Stmt:=(bV.drop 95).take 1
theorem QV (w:World) (os:OsState):segRunT treeTable Challenge.rw_slowroad_k70_bad_wishes.row.prog w 11 hdn 1 722 (IY w os) (piecesOf Z6 dr mJ (Pos.mk 608 0 609 78) yz)=some (.next,(IX w os),mJ,Pos.mk 610 0 710 36):=by kernel_rfl
def E3 (P:Pm):BT:=up [au,bB,MB,au,YS,MA,Mz,au,bB,YR,My,Mx,au,bB,Mw,au,YQ,Mv,Mu,au,wa,YO P,au,YN,YM,YL,au,bB,YK,Mt,Ms,Mr,Mq P,Mp,Mo,Mn,YJ,YH,au,bB,Mm,au,YG,Ml,Mj,au,bB,Mi,au,YE,Mh,Mg,au,bB,YD,Mf,Me,au,bB,Md,au,YC,Mc,Mb,au,bB,Ma,au,YB,L_,L9,au,bB,L8,au,YA,L7,L6,au,bB,LZ,au,Yz,LY,LX,au,bB,LW,au,Yy,LV,LU,au,bB,Yx,LS,LR] (ch [(3,MC P),(12,YT)] (IE P)) 1257
abbrev E4 (w:World) (os:OsState):SharedT:=SharedT.mk (E3 w.params) 1354 lif (Array.mk []) (Drawn.mk 0 0 0 0) 2000 os
def O5:List Stmt:=(bV.drop 96).take 21
theorem Ld (w:World) (os:OsState):segRunT treeTable Challenge.rw_slowroad_k70_bad_wishes.row.prog w 11 hdn 1 665 (IX w os) (piecesOf O5 dr mJ (Pos.mk 610 0 710 36) yz)=some (.next,(E4 w os),mJ,Pos.mk 802 0 827 96):=by kernel_rfl
def hfin:Pm→Heap:=fun P=>⟨Array.mk ((E3 P).list 1354),Life.mk List.nil List.nil List.nil 0 List.nil List.nil Bool.false (List.toArray List.nil) List.nil 0 Bool.false Bool.false Bool.false 0 (List.cons 2000 (List.cons 10 (List.cons 10 List.nil))) Bool.false 0 Bool.true List.nil List.nil 0 Bool.false⟩
theorem Rc (w:World) (os:OsState):topRun treeTable Challenge.rw_slowroad_k70_bad_wishes.row.prog w 11 hdn 2 ((E4 w os)).abs ⟨doneF .next,mJ,Pos.mk 802 0 827 96,yz⟩=some (⟨hfin w.params,Array.mk [],Drawn.mk 0 0 0 0,2000,os⟩:Shared):=by kernel_rfl
theorem Le:bV=hg6++(hg8++(aak++(aaj++(aai++(aah++(aag++(aaf++(aae++(aad++(aac++(aab++(aaa++(Z_++(Z9++(Z8++(Z7++(Z6++(O5++([]))))))))))))))))))):=by kernel_rfl
theorem Lb (w:World) (os:OsState):topRun treeTable Challenge.rw_slowroad_k70_bad_wishes.row.prog w 11 hdn 10457 ((yy w os)).abs (restOf bV dr mJ (Pos.mk 0 0 0 0) yz)=some (⟨hfin w.params,Array.mk [],Drawn.mk 0 0 0 0,2000,os⟩:Shared):=by
 rw [Le];exact (piece_app (segRun_of (aaJ w os)) (piece_app (segRun_of (aaI w os)) (piece_app (segRun_of (Q_ w os)) (piece_app (segRun_of (Q9 w os)) (piece_app (segRun_of (Q8 w os)) (piece_app (segRun_of (Q7 w os)) (piece_app (segRun_of (Q6 w os)) (piece_app (segRun_of (Q5 w os)) (piece_app (segRun_of (Q4 w os)) (piece_app (segRun_of (Q3 w os)) (piece_app (segRun_of (Q2 w os)) (piece_app (segRun_of (Q1 w os)) (piece_app (segRun_of (Q0 w os)) (piece_app (segRun_of (QZ w os)) (piece_app (segRun_of (QY w os)) (piece_app (segRun_of (QX w os)) (piece_app (segRun_of (QW w os)) (piece_app (segRun_of (QV w os)) (piece_app (segRun_of (Ld w os)) (piece_nil (Rc w os)))))))))))))))))))))
theorem QT (w:World) (os:OsState):topRun treeTable Challenge.rw_slowroad_k70_bad_wishes.row.prog w 11 hdn 10470 (⟨boot_heap w.params,Array.mk [],boot_drawn,boot_toks,os⟩:Shared) (topStub Challenge.rw_slowroad_k70_bad_wishes.row.prog)=some (⟨hfin w.params,Array.mk [],Drawn.mk 0 0 0 0,2000,os⟩:Shared):=go_top (n:=12) (N:=10458) (QU w os) (piece_block (n:=1) (N:=10457) (Rf w os) (Lb w os))
theorem Lc: ∀w:World,(fencedOpening treeTable Challenge.rw_slowroad_k70_bad_wishes.row.prog w 20998).map (fun s=>(s.heap,s.gens,s.drawn,s.toks))=some (boot_heap w.params,Array.mk [],boot_drawn,boot_toks):=boot_open rfl (by decide) (fun s=>rfl)
theorem La: ∀w:World,((boot_heap w.params).isNs mainGlobals&&(Array.mk []:Array GenState).size == 0,(boot_heap w.params).objs.size,(boot_heap w.params).nsMap mainGlobals "__annotations__")=(true,11,hdn):=fun w=>by kernel_rfl
theorem aax (w:World) (os:OsState):(staticsOk (importedModules Challenge.rw_slowroad_k70_bad_wishes.row.prog.main.body) (boot_heap w.params) (hfin w.params)&&namesBound Challenge.rw_slowroad_k70_bad_wishes.row.prog (hfin w.params)&&gensDone (⟨hfin w.params,Array.mk [],Drawn.mk 0 0 0 0,2000,os⟩:Shared)&&laidKept (boot_heap w.params) (hfin w.params))=true:=by kernel_rfl
abbrev Jm (w:World) (os:OsState):Shared:=(⟨hfin w.params,Array.mk [],Drawn.mk 0 0 0 0,2000,os⟩:Shared)
abbrev Lf (w:World) (os:OsState):=openSeen cN [] (importedModules Challenge.rw_slowroad_k70_bad_wishes.row.prog.main.body) (fun s=>xlAt cN [] s&&recOk Challenge.rw_slowroad_k70_bad_wishes.row.records s) true (Jm w os)
theorem aau (w:World) (os:OsState):(Lf w os).1=PyProof.Rows.expectedOf cN:=by kernel_rfl
theorem aat (w:World) (os:OsState):(Lf w os).2.1=bltViewBooted:=by kernel_rfl
theorem aas (w:World) (os:OsState):(Lf w os).2.2.1=true:=by kernel_rfl
theorem aar (w:World) (os:OsState):(Lf w os).2.2.2.1=true:=by kernel_rfl
theorem aaq (w:World) (os:OsState):(Lf w os).2.2.2.2.1=pinGoodD (PyProof.Rows.drecsOf cN):=by kernel_rfl
theorem aap (w:World) (os:OsState):(Lf w os).2.2.2.2.2.1=PyProof.Rows.plainGoodE cN (looseW cN []):=by kernel_rfl
theorem aao (w:World) (os:OsState):(Lf w os).2.2.2.2.2.2.1=PyProof.Rows.plainGoodD cN []:=by kernel_rfl
theorem aan (w:World) (os:OsState):(Lf w os).2.2.2.2.2.2.2.1=wideGood cN:=by kernel_rfl
theorem aam (w:World) (os:OsState):(Lf w os).2.2.2.2.2.2.2.2=clsGoodW cN []:=by kernel_rfl
theorem aaw (w:World) (os:OsState):openSeen cN [] (importedModules Challenge.rw_slowroad_k70_bad_wishes.row.prog.main.body) (fun s=>xlAt cN [] s&&recOk Challenge.rw_slowroad_k70_bad_wishes.row.records s) true (⟨hfin w.params,Array.mk [],Drawn.mk 0 0 0 0,2000,os⟩:Shared)=openGood cN []:=(Prod.ext (aau w os) (Prod.ext (aat w os) (Prod.ext (aas w os) (Prod.ext (aar w os) (Prod.ext (aaq w os) (Prod.ext (aap w os) (Prod.ext (aao w os) (Prod.ext (aan w os) (aam w os)))))))))
theorem we {α β γ:Type} {f:α→γ} {g:β→γ} {l:List α} {m:List β} (k n:Nat) (h:((l.drop k).take n).map f=((m.drop k).take n).map g) (t:(l.drop (k+n)).map f=(m.drop (k+n)).map g):(l.drop k).map f=(m.drop k).map g:=by
 rw [←List.take_append_drop n (l.drop k),←List.take_append_drop n (m.drop k),List.map_append,List.map_append,h,List.drop_drop,List.drop_drop,t]
theorem aaG (w:World) (os:OsState):((ft.drop 0).take 110).map (Jm w os).heap.get?=(((Aw w.params).drop 0).take 110).map (fun p=>some p.2):=by kernel_rfl
theorem aaF (w:World) (os:OsState):((ft.drop 110).take 110).map (Jm w os).heap.get?=(((Aw w.params).drop 110).take 110).map (fun p=>some p.2):=by kernel_rfl
theorem aaE (w:World) (os:OsState):((ft.drop 220).take 110).map (Jm w os).heap.get?=(((Aw w.params).drop 220).take 110).map (fun p=>some p.2):=by kernel_rfl
theorem aaD (w:World) (os:OsState):((ft.drop 330).take 110).map (Jm w os).heap.get?=(((Aw w.params).drop 330).take 110).map (fun p=>some p.2):=by kernel_rfl
theorem aaC (w:World) (os:OsState):((ft.drop 440).take 110).map (Jm w os).heap.get?=(((Aw w.params).drop 440).take 110).map (fun p=>some p.2):=by kernel_rfl
theorem aaB (w:World) (os:OsState):((ft.drop 550).take 110).map (Jm w os).heap.get?=(((Aw w.params).drop 550).take 110).map (fun p=>some p.2):=by kernel_rfl
theorem aaA (w:World) (os:OsState):((ft.drop 660).take 110).map (Jm w os).heap.get?=(((Aw w.params).drop 660).take 110).map (fun p=>some p.2):=by kernel_rfl
theorem aaz (w:World) (os:OsState):((ft.drop 770).take 110).map (Jm w os).heap.get?=(((Aw w.params).drop 770).take 110).map (fun p=>some p.2):=by kernel_rfl
theorem aay (w:World) (os:OsState):(ft.drop 880).map (Jm w os).heap.get?=((Aw w.params).drop 880).map (fun p=>some p.2):=by kernel_rfl
theorem aav (w:World) (os:OsState):(kHook Aw ft tw).obs (⟨hfin w.params,Array.mk [],Drawn.mk 0 0 0 0,2000,os⟩:Shared)=(kHook Aw ft tw).val w:=show (ft.drop 0).map (Jm w os).heap.get?=((Aw w.params).drop 0).map (fun p=>some p.2) from (we 0 110 (aaG w os) (we 110 110 (aaF w os) (we 220 110 (aaE w os) (we 330 110 (aaD w os) (we 440 110 (aaC w os) (we 550 110 (aaB w os) (we 660 110 (aaA w os) (we 770 110 (aaz w os) (aay w os)))))))))
theorem aaH: ∀w:World,Option.map (fun s=>(openSeen cN [] (importedModules Challenge.rw_slowroad_k70_bad_wishes.row.prog.main.body) (fun s=>xlAt cN [] s&&recOk Challenge.rw_slowroad_k70_bad_wishes.row.records s) true s,(kHook Aw ft tw).obs s)) (openEnds treeTable Challenge.rw_slowroad_k70_bad_wishes.row.prog w 20998)=some (openGood cN [],(kHook Aw ft tw).val w):=LeftO.of_pieces (H₀:=boot_heap) (H₁:=hfin) Lc La QT (by decide) (fun w=>funext fun os=>looks_pair (aax w os) (looks_pair (aaw w os) (aav w os)))
end
theorem lz {v l h:Int}:bK v l h=true↔l≤v∧v≤h:=by
 unfold bK
 rw [Bool.and_eq_true,decide_eq_true_eq,decide_eq_true_eq]
theorem BF {v l h:Int} (c:l≤v∧v≤h):bK v l h=true:=lz.mpr c
theorem qC {v l h:Int} (c: ¬(l≤v∧v≤h)):bK v l h=false:=by
 cases e:bK v l h
 ·rfl
 ·exact absurd (lz.mp e) c
noncomputable def lZ (r l:Int):Int:=if r=1 then 2+l / 2 else 2*r+l - 1
noncomputable def pX (o t g:Int):Int:=if lZ o g<lZ t g then lZ t g else lZ o g
def good (r o t g f l:Int):Prop:=(2≤r∧r≤64)∧((1≤o∧o≤16)∧(1≤t∧t≤16))∧(1≤g∧g≤32)∧(2≤l∧l≤64)∧(2≤f∧f≤l)
def AQ:Sp:=fun vs H Q E=>match vs with
 | [.int r,.int l]=>Q (.int (lZ r l)) H
 |_=>False
def nP:Sp:=fun vs H Q E=>match vs with
 | [.ref p]=> ∃o t,H p=some (.tup [.int o,.int t])∧∀H',aW H H'→Q (.bl (decide ((1≤o∧o≤16)∧(1≤t∧t≤16)))) H'
 |_=>False
def nO:Sp:=fun vs H Q E=>match vs with
 | [.int f,.int l]=>Q (.bl (decide ((2≤l∧l≤64)∧2≤f∧f≤l))) H
 |_=>False
def du (aB:Addr):Sp:=fun vs H Q E=>match vs with
 | [.ref e,.int l]=>H e=some (.ext (y9 e aB none))∧∀d,H d=none→Q .non (upd (upd H d (.xd [("least",.int l)])) e (.ext (y9 e aB (some d))))
 |_=>False
def fF (bj aD aB:Addr):Sp:=fun vs H Q E=>match vs with
 | [.ref x,.int r,.ref p,.int g,.int f,.int l]=> ∃o t dx,H p=some (.tup [.int o,.int t])∧H x=some (.ins bj dx [])∧(¬good r o t g f l→∀H',aW H H'→E (.ref aD) none H')∧(good r o t g f l→r<pX o t g→∀H' d,aW H H'→H' d=some (.xd [("least",.int (pX o t g))])→E (.ref aB) (some d) H')∧(good r o t g f l→¬r<pX o t g→∀H',cm x H H'→H' x=some (.ins bj dx (cX (.int r) (.ref p) (.int g) (.int f) (.int l)))→Q .non H')
 |_=>False
def fJ (ar:Addr):Sp:=fun vs H Q E=>match vs with
 | [.ref p,.int m]=> ∃dx,H p=some (.ins ar dx [])∧Q .non (upd H p (.ins ar dx (bZ (.int m) (.int (MeterM.mn 2 m)) (.int m) (.int 0))))
 |_=>False
def sR (ar:Addr):Sp:=fun vs H Q E=>match vs with
 | [.ref p]=> ∃dx m w k c,H p=some (.ins ar dx (bZ (.int m) (.int w) (.int k) (.int c)))∧Q .non (upd H p (.ins ar dx (bZ (.int m) (.int (MeterM.k1 m k (w,c)).1) (.int k) (.int (MeterM.k1 m k (w,c)).2))))
 |_=>False
def xZ (ar:Addr):Sp:=fun vs H Q E=>match vs with
 | [.ref p,.int n]=>(0≤n∧n<1000)∧∃dx m w k c,H p=some (.ins ar dx (bZ (.int m) (.int w) (.int k) (.int c)))∧Q .non (upd H p (.ins ar dx (bZ (.int m) (.int (MeterM.kn m k n.toNat (w,c)).1) (.int k) (.int (MeterM.kn m k n.toNat (w,c)).2))))
 |_=>False
def zp (ar:Addr):Sp:=fun vs H Q E=>match vs with
 | [.ref p]=> ∃dx m w k c,H p=some (.ins ar dx (bZ (.int m) (.int w) (.int k) (.int c)))∧Q (.int (MeterM.hf w)) H
 |_=>False
def uA (ar:Addr):Sp:=fun vs H Q E=>match vs with
 | [.ref p]=> ∃dx m w k c,H p=some (.ins ar dx (bZ (.int m) (.int w) (.int k) (.int c)))∧Q .non (upd H p (.ins ar dx (bZ (.int m) (.int 1) (.int (MeterM.hf w)) (.int 0))))
 |_=>False
def uB (ar:Addr):Sp:=fun vs H Q E=>match vs with
 | [.ref p]=> ∃dx m w k c,H p=some (.ins ar dx (bZ (.int m) (.int w) (.int k) (.int c)))∧Q .non (upd H p (.ins ar dx (bZ (.int m) (.int (MeterM.hf w)) (.int (MeterM.hf w)) (.int 0))))
 |_=>False
structure Wb (a A b B m:Int):Prop where
 m0:0≤m
 m1:m≤1000000
 a0:0≤a
 A0:0<A
 b0:0≤b
 B0:0<B
 a1:Bd 1000 a
 A1:Bd 1000 A
 b1:Bd 1000 b
 B1:Bd 1000 B
def AK (ay:Addr) (H:Hp) (p dx:Addr) (L w a A b B:Int):Prop:= ∃ps pp,H p=some (.ins ay dx (iq (.int L) (.ref ps) (.ref pp) (.int w)))∧H ps=some (.tup [.int a,.int A])∧H pp=some (.tup [.int b,.int B])
noncomputable abbrev nsp:=WaysM.nsp
noncomputable abbrev nsm:=WaysM.nsm
noncomputable def lw (a A b B:Int):Int:=-(-(a*B+4*b*A) / (A*B))
noncomputable def wt (L a A b B:Int):Int:=if 2<(if lw a A b B<L then lw a A b B else L) then (if lw a A b B<L then lw a A b B else L) else 2
def Fv:Sp:=fun vs H Q E=>match vs with
 | [.int t,.int b]=>(0≤t∧0<b∧Bd 8000 b)∧∀p,H p=none→Q (.ref p) (upd H p (.tup [.int (WaysM.low t b).1,.int (WaysM.low t b).2]))
 |_=>False
def iH (ay:Addr):Sp:=fun vs H Q E=>match vs with
 | [.ref p,.int f,.int l]=> ∃dx,H p=some (.ins ay dx [])∧Q .non (upd H p (.ins ay dx (iq (.int l) .non .non (.int f))))
 |_=>False
def qI (ay:Addr):Sp:=fun vs H Q E=>match vs with
 | [.ref p,.int m]=> ∃dx L w a A b B,Wb a A b B m∧AK ay H p dx L w a A b B∧∀q,H q=none→Q (.ref q) (upd H q (.tup [.int (nsp a A b B m).1,.int (nsp a A b B m).2]))
 |_=>False
def qJ (ay:Addr):Sp:=fun vs H Q E=>match vs with
 | [.ref p,.int m]=> ∃dx L s ps w a A,(0≤m∧m≤1000000∧0≤a∧0<A∧Bd 1000 A)∧H p=some (.ins ay dx (iq (.int L) (.ref ps) s (.int w)))∧H ps=some (.tup [.int a,.int A])∧∀q,H q=none→Q (.ref q) (upd H q (.tup [.int (nsm a A m).1,.int (nsm a A m).2]))
 |_=>False
def rz (ay:Addr):Sp:=fun vs H Q E=>match vs with
 | [.ref p]=> ∃dx L w a A b B,(0<A∧0<B∧Bd 2000 a∧Bd 2000 A∧Bd 3000 b∧Bd 3000 B)∧AK ay H p dx L w a A b B∧Q (.int (lw a A b B)) H
 |_=>False
def uu (ay:Addr):Sp:=fun vs H Q E=>match vs with
 | [.ref p,.int m]=>(0≤m∧m≤1000000)∧((∃dx L w,H p=some (.ins ay dx (iq (.int L) .non .non (.int w)))∧∀H',cm p H H'→AK ay H' p dx L (wt L m 1 (WaysM.low m 2).1 (WaysM.low m 2).2) m 1 (WaysM.low m 2).1 (WaysM.low m 2).2→Q .non H')∨(∃dx L w a A b B,Wb a A b B m∧AK ay H p dx L w a A b B∧∀H',cm p H H'→AK ay H' p dx L (wt L (nsm a A m).1 (nsm a A m).2 (nsp a A b B m).1 (nsp a A b B m).2) (nsm a A m).1 (nsm a A m).2 (nsp a A b B m).1 (nsp a A b B m).2→Q .non H'))
 |_=>False
def wo (ay:Addr):Sp:=fun vs H Q E=>match vs with
 | [.ref p]=> ∃dx L s sp w,H p=some (.ins ay dx (iq (.int L) s sp (.int w)))∧Q .non (upd H p (.ins ay dx (iq (.int L) s sp (.int (if L<2*w then L else 2*w)))))
 |_=>False
noncomputable abbrev Wg:=Option (Int×Int×Int×Int)
def WS (C:Addr) (H:Hp) (p dx:Addr) (L w:Int) (g:Wg) (k:Nat):Prop:=2≤L∧(2≤w∧w≤L)∧((k=0∧g=none∧H p=some (.ins C dx (iq (V.int L) V.non V.non (V.int w))))∨∃n P S D a A b B,g=some (a,A,b,B)∧n+1=k∧WaysM.St n P S D a A b B∧AK C H p dx L w a A b B)
noncomputable def mgs (g:Wg) (m:Int):Wg:=match g with
 |none=>some (m,1,(WaysM.low m 2).1,(WaysM.low m 2).2)
 |some (a,A,b,B)=>some ((nsm a A m).1,(nsm a A m).2,(nsp a A b B m).1,(nsp a A b B m).2)
noncomputable def mws (L:Int) (g:Wg):Int:=match g with
 |none=>2
 |some (a,A,b,B)=>wt L a A b B
theorem WS.ins {C p dx:Addr} {H:Hp} {L w:Int} {g:Wg} {k:Nat} (h:WS C H p dx L w g k): ∃s sp,H p=some (.ins C dx (iq (V.int L) s sp (V.int w))):=by
 obtain ⟨_,_,⟨_,_,hi⟩|⟨n,P,S,D,a,A,b,B,_,_,_,⟨ps,pp,g1,_⟩⟩⟩:=h
 ·exact ⟨_,_,hi⟩
 ·exact ⟨_,_,g1⟩
theorem WS.keep {C p dx:Addr} {H H':Hp} {L w:Int} {g:Wg} {k:Nat} (h:WS C H p dx L w g k) (hp: ∀o,H p=some o→H' p=some o) (ht: ∀t l,H t=some (.tup l)→H' t=some (.tup l)):WS C H' p dx L w g k:=by
 obtain ⟨h0,h1,⟨a1,a2,a3⟩|⟨n,P,S,D,a,A,b,B,b0,b1,b2,⟨ps,pp,g1,g2,g3⟩⟩⟩:=h
 ·exact ⟨h0,h1,.inl ⟨a1,a2,hp _ a3⟩⟩
 ·exact ⟨h0,h1,.inr ⟨n,P,S,D,a,A,b,B,b0,b1,b2,⟨ps,pp,hp _ g1,ht _ _ g2,ht _ _ g3⟩⟩⟩
def MS (C:Addr) (H:Hp) (p dx:Addr) (mo wi kn co:Int):Prop:=H p=some (.ins C dx (bZ (.int mo) (.int wi) (.int kn) (.int co)))∧MeterM.Inb mo (wi,co)
structure Ad where
 dx:Addr
 pw:Addr
 pm:Addr
 pt:Addr
 pk:Addr
 pf:Addr
 pa:Addr
 dw:Addr
 dm:Addr
structure Sd where
 R:Int
 b:Int
 t:Int
 e:Int
 clk:V
 hur:Bool
 T:List V
 Kn:List (Key×V)
 Fi:List (Key×V)
 Ag:List (Key×V)
 L:Int
 w:Int
 k:Nat
 wi:Int
 g:Wg
 mo:Int
 kn:Int
 co:Int
structure cP (CS CW CM:Addr) (H:Hp) (x:Addr) (A:Ad) (z:Sd):Prop where
 hx:H x=some (.ins CS A.dx (jG (.int z.R) (.ref A.pw) (.ref A.pm) (.ref A.pt) (.int z.b) (.int z.t) (.int z.e) z.clk (.bl z.hur) (.ref A.pk) (.ref A.pf) (.ref A.pa)))
 ht:H A.pt=some (.lst z.T)
 hk:H A.pk=some (.dK z.Kn)
 hf:H A.pf=some (.dK z.Fi)
 ha:H A.pa=some (.dK z.Ag)
 ws:WS CW H A.pw A.dw z.L z.w z.g z.k
 ms:MS CM H A.pm A.dm z.mo z.wi z.kn z.co
 kf:A.pk≠A.pf
 ka:A.pk≠A.pa
 fa:A.pf≠A.pa
 xw:x≠A.pw
 xm:x≠A.pm
 wm:A.pw≠A.pm
theorem cP.same {CS CW CM x:Addr} {H H':Hp} {A:Ad} {z:Sd} (h:cP CS CW CM H x A z) (e:aW H H'):cP CS CW CM H' x A z:=by
 obtain ⟨e1,hi⟩:=h.ms
 exact ⟨e _ _ h.hx,e _ _ h.ht,e _ _ h.hk,e _ _ h.hf,e _ _ h.ha,h.ws.keep (fun o q=>e _ _ q) (fun t l q=>e _ _ q),⟨e _ _ e1,hi⟩,h.kf,h.ka,h.fa,h.xw,h.xm,h.wm⟩
def Fr6 (x:Addr) (A:Ad) (H H':Hp):Prop:= ∀b u,H b=some u→b≠x→b≠A.pw→b≠A.pm→b≠A.pt→b≠A.pk→b≠A.pf→H' b=some u
theorem xQ {H H':Hp} (e:aW H H') {p:Addr} (h:H' p=none):H p=none:=by
 cases q:H p with
 |none=>rfl
 |some o=>rw [e _ _ q] at h;cases h
noncomputable def knw (D:List (Key×V)) (j:Int):Bool:=(iG D (ik j)).isSome
noncomputable def kab (z:Sd):Nat:=((List.range (z.t - (z.b+1)).toNat).filter fun j:Nat=>knw z.Kn (z.b+1+(j:Int))).length
noncomputable def putAll (D:List (Key×V)) (ps:List Int):List (Key×V):=ps.foldl (fun D n=>putK D (ik n) (.bl true)) D
noncomputable def frs (D:List (Key×V)) (ps:List Int):List Int:=ps.filter fun n=>!knw D n
noncomputable def irg (b:Int) (n:Nat):List Int:=(List.range n).map fun j:Nat=>b+(j:Int)
noncomputable def hld (z:Sd) (hs:List Int):List Int:=(hs.filter fun h=>decide (z.b+h<z.t)).map fun h=>z.b+h
def Fr7 (x:Addr) (A:Ad) (H H':Hp):Prop:= ∀b u,H b=some u→b≠x→b≠A.pw→b≠A.pm→b≠A.pt→b≠A.pk→b≠A.pf→b≠A.pa→H' b=some u
def Clk (c:V) (n:Int) (r:Bool):Prop:=(c = .non∧r=false)∨∃i,c = .int i∧r=decide (i≤n)
structure Bz (z:Sd):Prop where
 b0:0≤z.b
 bt:z.b≤z.t
 t1:z.t≤900
def zk (af ay ar:Addr):Sp:=fun vs H Q E=>match vs with
 | [.ref x,th]=> ∃A z,cP af ay ar H x A z∧z.T.length<1000∧∀H',cm A.pt H H'→cP af ay ar H' x A {z with T:=z.T++ [th]}→Q .non H'
 |_=>False
def lI (af ay ar:Addr):Sp:=fun vs H Q E=>match vs with
 | [.ref x]=> ∃A z,cP af ay ar H x A z∧Q (.int z.T.length) H
 |_=>False
def ko (af ay ar:Addr):Sp:=fun vs H Q E=>match vs with
 | [.ref x,.int p]=> ∃A z v,cP af ay ar H x A z∧sH z.T p=some v∧Q v H
 |_=>False
def lJ (af ay ar:Addr):Sp:=fun vs H Q E=>match vs with
 | [.ref x]=> ∃A z,cP af ay ar H x A z∧Bz z∧∀H',aW H H'→Q (.int (kab z)) H'
 |_=>False
def qL (af ay ar:Addr):Sp:=fun vs H Q E=>match vs with
 | [.ref x]=> ∃A z,cP af ay ar H x A z∧Bz z∧∀H',aW H H'→Q (.int (z.t - z.b - kab z)) H'
 |_=>False
def o8 (af ay ar:Addr):Sp:=fun vs H Q E=>match vs with
 | [.ref x]=> ∃A z,cP af ay ar H x A z∧Q (.bl (decide (z.t<z.T.length))) H
 |_=>False
def nV (af ay ar:Addr):Sp:=fun vs H Q E=>match vs with
 | [.ref x]=> ∃A z,cP af ay ar H x A z∧Bz z∧∀H',aW H H'→Q (.bl (decide (z.b<z.t) && !z.hur&&decide ((2:Int)≤kab z))) H'
 |_=>False
def pE (af ay ar:Addr):Sp:=fun vs H Q E=>match vs with
 | [.ref x]=> ∃A z,cP af ay ar H x A z∧Bz z∧∀H',aW H H'→Q (.bl (decide (z.t<z.T.length)&&decide (z.t<z.e)&&decide (z.t - z.b - kab z<z.wi))) H'
 |_=>False
def o9 (af ay ar:Addr):Sp:=fun vs H Q E=>match vs with
 | [.ref x,.ref l]=> ∃A z,∃ps:List Int,cP af ay ar H x A z∧H l=some (.lst (ps.map V.int))∧z.Kn.length<1000000∧ps.length≤1000∧∀p H',H p=none→Fr6 x A H H'→cP af ay ar H' x A {z with Kn:=putAll z.Kn (frs z.Kn ps)}→H' p=some (.lst ((frs z.Kn ps).map V.int))→Q (.ref p) H'
 |_=>False
def qM (af ay ar:Addr):Sp:=fun vs H Q E=>match vs with
 | [.ref x,.int n]=> ∃A z,cP af ay ar H x A z∧∀H',cm x H H'→cP af ay ar H' x A {z with clk:= .int (n+z.w)}→Q .non H'
 |_=>False
def qO (af ay ar:Addr):Sp:=fun vs H Q E=>match vs with
 | [.ref x,.int st]=> ∃A z,cP af ay ar H x A z∧Bz z∧(0≤st∧st≤z.t - z.b)∧z.Kn.length<1000000∧∀fs p H',fs=frs z.Kn (irg z.b st.toNat)→H p=none→Fr6 x A H H'→cP af ay ar H' x A {z with b:=z.b+st,Kn:=putAll z.Kn fs}→H' p=some (.lst (fs.map V.int))→Q (.ref p) H'
 |_=>False
def qN (af ay ar:Addr):Sp:=fun vs H Q E=>match vs with
 | [.ref x,.ref t]=> ∃A z,∃hs:List Int,cP af ay ar H x A z∧H t=some (.tup (hs.map V.int))∧hs.length≤1000∧z.Kn.length<1000000∧∀fs p H',fs=frs z.Kn (hld z hs)→H p=none→Fr6 x A H H'→cP af ay ar H' x A {z with Kn:=putAll z.Kn fs}→H' p=some (.lst (fs.map V.int))→Q (.ref p) H'
 |_=>False
def rE (af ay ar:Addr):Sp:=fun vs H Q E=>match vs with
 | [.ref x,.int n]=> ∃A z,cP af ay ar H x A z∧z.Ag.length<1000000∧∀p H',H p=none→Fr7 x A H H'→cP af ay ar H' x A {z with clk:= .int (n+z.w),hur:=true,Ag:=putK z.Ag (ik z.b) (.bl true)}→H' p=some (.tup [.str "again",.int z.b])→Q (.ref p) H'
 |_=>False
def nX (af ay ar:Addr):Sp:=fun vs H Q E=>match vs with
 | [.ref x,.int n]=> ∃A z r,cP af ay ar H x A z∧Clk z.clk n r∧Q (.bl r) H
 |_=>False
def uy (af ay ar:Addr):Sp:=fun vs H Q E=>match vs with
 | [.ref x,.int n]=> ∃A z,cP af ay ar H x A z∧z.Fi.length<1000000∧∀p H',H p=none→Fr6 x A H H'→cP af ay ar H' x A {z with clk:=if z.b=z.t then .int (n+z.w) else z.clk,t:=z.t+1,Fi:=putK z.Fi (ik z.t) (.int n)}→H' p=some (.tup [.str "new",.int z.t])→Q (.ref p) H'
 |_=>False
noncomputable def w2 (z:Sd):Int:=if z.L<2*z.w then z.L else 2*z.w
noncomputable def Sv (c:V) (n:Int):Bool:=match c with
 | .int i=>decide (i≤n)
 |_=>false
noncomputable def Z5 (z:Sd):Bool:=decide (z.b<z.t) && !z.hur&&decide ((2:Int)≤kab z)
noncomputable def Ib (z:Sd):Bool:=decide (z.t<z.T.length)&&decide (z.t<z.e)&&decide (z.t - z.b - kab z<z.wi)
noncomputable def Z1 (z:Sd) (n:Int):Sd:={z with w:=w2 z,wi:=1,kn:=MeterM.hf z.wi,co:=0,clk:= .int (n+w2 z),hur:=true,Ag:=putK z.Ag (ik z.b) (.bl true)}
noncomputable def afx (z:Sd) (n:Int):Sd:={z with wi:=MeterM.hf z.wi,kn:=MeterM.hf z.wi,co:=0,clk:= .int (n+z.w),hur:=true,Ag:=putK z.Ag (ik z.b) (.bl true)}
noncomputable def aft (z:Sd) (n:Int):Sd:={z with clk:=if z.b=z.t then .int (n+z.w) else z.clk,t:=z.t+1,Fi:=putK z.Fi (ik z.t) (.int n)}
noncomputable def afG (z:Sd) (n:Int):Sd:={z with w:=w2 z,clk:= .int (n+w2 z)}
noncomputable def abv (z:Sd) (n:Int):Sd:={z with clk:= .int (n+z.w)}
def AsX (z z':Sd) (n:Int) (v:V) (H H':Hp):Prop:=(z.clk = .non∧z'=abv z n∧v = .non)∨(∃i,z.clk = .int i∧n<i∧z'=z∧v = .non)∨(∃i,z.clk = .int i∧i≤n∧z'=afG z n∧∃p,v = .ref p∧H p=none∧H' p=some (.tup [.str "ask",.non]))
def GoX (z z':Sd) (n:Int) (v:V) (H H':Hp):Prop:=
 (z.b<z.t∧Sv z.clk n=true∧z'=Z1 z n∧∃p,v = .ref p∧H p=none∧H' p=some (.tup [.str "again",.int z.b]))∨
 (
  (z.b<z.t→Sv z.clk n=false)∧((Z5 z=true∧z'=afx z n∧∃p,v = .ref p∧H p=none∧H' p=some (.tup [.str "again",.int z.b]))∨
  (
   Z5 z=false∧((Ib z=true∧z'=aft z n∧∃p,v = .ref p∧H p=none∧H' p=some (.tup [.str "new",.int z.t]))∨
   (Ib z=false∧((z.t<z.T.length∧z.b=z.t∧AsX z z' n v H H')∨(¬(z.t<z.T.length∧z.b=z.t)∧z'=z∧v = .non)))))))
def nY (af ay ar:Addr):Sp:=fun vs H Q E=>match vs with
 | [.ref x,.int n]=> ∃A z,cP af ay ar H x A z∧(z.clk = .non∨∃i,z.clk = .int i)∧∀v H' z',Fr7 x A H H'→cP af ay ar H' x A z'→AsX z z' n v H H'→Q v H'
 |_=>False
def AS (af ay ar:Addr):Sp:=fun vs H Q E=>match vs with
 | [.ref x,.int n]=> ∃A z,cP af ay ar H x A z∧Bz z∧(z.clk = .non∨∃i,z.clk = .int i)∧z.Ag.length<1000000∧z.Fi.length<1000000∧∀v H' z',Fr7 x A H H'→cP af ay ar H' x A z'→GoX z z' n v H H'→Q v H'
 |_=>False
noncomputable def cnt (D:List (Key×V)) (t:Nat):Nat:=((List.range t).filter fun j:Nat=>knw D (j:Int)).length
def Tq (z:Sd) (tn:Int):Prop:= ∀j:Int,0≤j→j<z.t→∃f,iG z.Fi (ik j)=some (.int f)∧0≤tn - f∧tn - f≤1000000
noncomputable def far' (z:Sd) (nu:Int):Int:=(nu - z.b) % z.R
noncomputable def f1' (z:Sd) (nu:Int):List Int:=frs z.Kn (irg z.b (far' z nu).toNat)
noncomputable def z1' (z:Sd) (nu:Int):Sd:={z with b:=z.b+far' z nu,Kn:=putAll z.Kn (f1' z nu)}
noncomputable def f2' (z:Sd) (nu:Int) (hs:List Int):List Int:=frs (z1' z nu).Kn (hld (z1' z nu) hs)
noncomputable def fsh (z:Sd) (nu:Int) (hs:List Int):List Int:=f1' z nu++f2' z nu hs
noncomputable def aaN (z:Sd) (p:Int):Int:=match iG z.Fi (ik p) with
 |some (.int f)=>f
 |_=>0
noncomputable abbrev Ws:=Int×Wg×Nat
noncomputable def ms1 (z:Sd) (tn:Int) (s:Ws) (p:Int):Ws:=if knw z.Ag p then s else (mws z.L (mgs s.2.1 (tn - aaN z p)),mgs s.2.1 (tn - aaN z p),s.2.2+1)
noncomputable def mall (z:Sd) (tn:Int) (fs:List Int):Ws:=fs.foldl (ms1 z tn) (z.w,z.g,z.k)
noncomputable def hrd (z:Sd) (nu rm:Int) (hs:List Int) (tn:Int):Sd:=
 ⟨z.R,z.b+far' z nu,z.t,if z.e<z.b+far' z nu+rm then z.b+far' z nu+rm else z.e,if 0<far' z nu then (if z.b+far' z nu<z.t then .int (tn+(mall z tn (fsh z nu hs)).1) else .non) else z.clk,if 0<far' z nu then false else z.hur,z.T,putAll (z1' z nu).Kn (f2' z nu hs),z.Fi,z.Ag,z.L,(mall z tn (fsh z nu hs)).1,(mall z tn (fsh z nu hs)).2.2,(MeterM.kn z.mo z.kn (fsh z nu hs).length (z.wi,z.co)).1,(mall z tn (fsh z nu hs)).2.1,z.mo,z.kn,(MeterM.kn z.mo z.kn (fsh z nu hs).length (z.wi,z.co)).2⟩
def wy (af ay ar:Addr):Sp:=fun vs H Q E=>match vs with
 | [.ref x,.int nu,.int rm,.ref hd,.int tn]=> ∃A z,∃hs:List Int,cP af ay ar H x A z∧Bz z∧0<z.R∧H hd=some (.tup (hs.map V.int))∧hs.length≤100∧hs.Nodup∧(∀k∈hs,0≤k)∧Tq z tn∧z.Kn.length<900000∧z.t≤390∧z.k≤cnt z.Kn z.t.toNat∧∀p H',H p=none→Fr7 x A H H'→((z.t - z.b<far' z nu∧aW H H'∧H' p=some (.lst []))∨(far' z nu≤z.t - z.b∧cP af ay ar H' x A (hrd z nu rm hs tn)∧H' p=some (.lst ((fsh z nu hs).map V.int))))→Q (.ref p) H'
 |_=>False
theorem cu {x p:Addr} {H H':Hp} (b:cm x H H') (n:x≠p) (h:H' p=none):H p=none:=by
 cases q:H p with
 |none=>rfl
 |some o=>rw [b _ _ q n.symm] at h;cases h
def d7 (af ay ar:Addr):Sp:=fun vs H Q E=>match vs with
 | [.ref x,.int r,.int f,.int l,.int m]=>(2≤f∧f≤l∧1≤m)∧∃dx,H x=some (.ins af dx [])∧∀A H',cm x H H'→(∀b,b∈[A.pw,A.pm,A.pt,A.pk,A.pf,A.pa]→H b=none)→cP af ay ar H' x A ⟨r,0,0,1,.non,false,[],[],[],[],l,f,0,MeterM.mn 2 m,none,m,m,0⟩→Q .non H'
 |_=>False
structure Tk where
 R:Int
 M:Int
 g:Int
 o:Int
 D:List (Key×V)
structure pq (C:Addr) (H:Hp) (x dx pk:Addr) (z:Tk):Prop where
 hx:H x=some (.ins C dx (tJ (.int z.R) (.int z.M) (.int z.g) (.int z.o) (.ref pk)))
 hD:H pk=some (.dK z.D)
theorem pq.n1 {C x dx pk:Addr} {H:Hp} {z:Tk} (h:pq C H x dx pk z):pk≠x:=jY h.hD h.hx (by simp)
theorem pq.same {C x dx pk:Addr} {H H':Hp} {z:Tk} (h:pq C H x dx pk z) (e:aW H H'):pq C H' x dx pk z:=⟨e _ _ h.hx,e _ _ h.hD⟩
def Fr2 (x pk:Addr) (H H':Hp):Prop:= ∀b u,H b=some u→b≠x→b≠pk→H' b=some u
noncomputable def vals (D:List (Key×V)) (g:Int) (n:Nat):List V:=(List.range n).map fun j:Nat=>(iG D (ik (g+(j:Int)))).getD .non
def Run (D:List (Key×V)) (g:Int) (n:Nat):Prop:=(∀j:Nat,j<n→(iG D (ik (g+j))).isSome=true)∧iG D (ik (g+n))=none
noncomputable def aal (D:List (Key×V)) (g:Int) (n:Nat):List Int:=((List.range n).filter fun j:Nat=>(iG D (ik (g+(1+(j:Int))))).isSome).map (fun j:Nat=>1+(j:Int))
def G5:Sp:=fun vs H Q E=>match vs with
 | [.int r,.int a,.int b]=>0<r∧Q (.int ((b - a) % r)) H
 |_=>False
def fG (aI:Addr):Sp:=fun vs H Q E=>match vs with
 | [.ref x,.int r,.int m]=> ∃dx,H x=some (.ins aI dx [])∧∀pk H',H pk=none→cm x H H'→pq aI H' x dx pk ⟨r,m,0,0,[]⟩→Q .non H'
 |_=>False
def rC (aI:Addr):Sp:=fun vs H Q E=>match vs with
 | [.ref x]=> ∃dx pk z,pq aI H x dx pk z∧Q (.int (z.o+z.M - z.g)) H
 |_=>False
def nt (aI:Addr):Sp:=fun vs H Q E=>match vs with
 | [.ref x]=> ∃dx pk z B,pq aI H x dx pk z∧(∀i,(iG z.D (ik i)).isSome=true→i<B)∧B≤z.g+1000∧∀n p H',Run z.D z.g n→H p=none→Fr2 x pk H H'→pq aI H' x dx pk {z with g:=z.g+n}→H' p=some (.lst (vals z.D z.g n))→Q (.ref p) H'
 |_=>False
def zg (aI:Addr):Sp:=fun vs H Q E=>match vs with
 | [.ref x,.int m,.ref th]=> ∃dx pk z B,pq aI H x dx pk z∧0<z.R∧(∀i,(iG z.D (ik i)).isSome=true→i<B)∧B≤z.g+1000∧z.o+z.M≤B∧z.D.length<1000∧((z.o+z.M - z.g≤(m - z.g) % z.R∧∀p l H',aW H H'→H p=none→H l=none→H' p=some (.tup [.non,.ref l])→H' l=some (.lst [])→Q (.ref p) H')∨((m - z.g) % z.R<z.o+z.M - z.g∧∀D',D'=(if (iG z.D (ik (z.g+(m - z.g) % z.R))).isSome then z.D else putK z.D (ik (z.g+(m - z.g) % z.R)) (.ref th))→∀n p l H',Run D' z.g n→H p=none→H l=none→p≠l→Fr2 x pk H H'→pq aI H' x dx pk ⟨z.R,z.M,z.g+n,z.o,D'⟩→H' l=some (.lst (vals D' z.g n))→H' p=some (.tup [.int (z.g+(m - z.g) % z.R),.ref l])→Q (.ref p) H'))
 |_=>False
def wu (aI:Addr):Sp:=fun vs H Q E=>match vs with
 | [.ref x]=> ∃dx pk z,pq aI H x dx pk z∧0<z.R∧(0≤z.o+z.M - z.g∧z.o+z.M - z.g≤1000)∧∀p t hs H',aW H H'→hs=aal z.D z.g (z.o+z.M - z.g - 1).toNat→H p=none→H t=none→H' t=some (.tup (hs.map V.int))→H' p=some (.tup [.int (z.g % z.R),.int (z.o+z.M - z.g),.ref t])→Q (.ref p) H'
 |_=>False
def zh (aI:Addr):Sp:=fun vs H Q E=>match vs with
 | [.ref x,.int m]=> ∃dx pk z,pq aI H x dx pk z∧(0≤m∧m≤1000∧0≤z.o∧z.o≤z.g∧z.g≤10000)∧(∀i,z.o≤i→i<z.g→(iG z.D (ik i)).isSome=true)∧∀n p D' H',n=((if z.g<z.o+m then z.g else z.o+m) - z.o).toNat→H p=none→(∀i,iG D' (ik i)=if z.o≤i∧i<z.o+n then none else iG z.D (ik i))→D'.Sublist z.D→Fr2 x pk H H'→pq aI H' x dx pk ⟨z.R,z.M,z.g,z.o+n,D'⟩→H' p=some (.lst (vals z.D z.o n))→Q (.ref p) H'
 |_=>False
noncomputable def tbl (aC aj aE aF ah ag ai:Addr):List (Addr×Str):=[(aC,"shut"),(aj,"calling"),(aE,"open"),(aF,"left"),(ah,"leaving"),(ag,"waiting"),(ai,"closing")]
def jQ (tb:List (Addr×Str)) (H:Hp) (x:Addr) (nm:Str):Prop:= ∃C dx,H x=some (.ins C dx [])∧(C,nm)∈tb
noncomputable def afz:List (Str×Str×Str):=[("shut","begin","calling"),("shut","begun","open"),("calling","end","leaving"),("calling","begun","open"),("open","end","leaving"),("open","ended","left"),("left","end","closing"),("leaving","ended","closing"),("leaving","answered","waiting"),("waiting","ended","shut"),("closing","answered","shut")]
noncomputable def pS (nm w:Str):Option Str:=match afz.find? (fun t=>decide (t.1=nm)&&decide (t.2.1=w)) with
 |some t=>some t.2.2
 |none=>if w = "begin" ∨w = "end" then none else some nm
noncomputable def Qp (nm:Str):Bool:=decide (nm = "calling")||decide (nm = "open")||decide (nm = "left")
theorem dropxl {H H1:Hp} {e d C:Addr} {o:HO} {l:List (Str×V)} (S:aW H H1) (he:H1 e=none) (hd:upd H1 e o d=none):aW H (j5 (upd (upd (upd H1 e o) d (.xd l)) e (.ext (y9 e C (some d)))) e)∧j5 (upd (upd (upd H1 e o) d (.xd l)) e (.ext (y9 e C (some d)))) e d=some (.xd l):=by
 have nd:d≠e:=fun z=>by rw [z,aa] at hd;cases hd
 refine ⟨fun b u hb=>?_,?_⟩
 ·
  have h1:=S b u hb
  have nb:b≠e:=av h1 he
  rw [dZ nb,ak nb,ak (fun z=>?_),ak nb];exact h1
  rw [z] at h1
  rw [ak nd] at hd
  rw [h1] at hd;cases hd
 ·rw [dZ nd,ak nd,aa]
def rF (aG:Addr):Sp:=fun vs H Q E=>match vs with
 | [.ref e,v,u]=>H e=some (.ext (y9 e aG none))∧∀d,H d=none→Q .non (upd (upd H d (.xd [("state",v),("wish",u)])) e (.ext (y9 e aG (some d))))
 |_=>False
def nU:Sp:=fun vs H Q E=>match vs with
 | [.ref x]=>Q (.str "shut") H
 |_=>False
def ku:Sp:=fun vs H Q E=>match vs with
 | [.ref x]=>Q (.str "calling") H
 |_=>False
def nZ:Sp:=fun vs H Q E=>match vs with
 | [.ref x]=>Q (.str "open") H
 |_=>False
def n8:Sp:=fun vs H Q E=>match vs with
 | [.ref x]=>Q (.str "left") H
 |_=>False
def kq:Sp:=fun vs H Q E=>match vs with
 | [.ref x]=>Q (.str "leaving") H
 |_=>False
def km:Sp:=fun vs H Q E=>match vs with
 | [.ref x]=>Q (.str "waiting") H
 |_=>False
def kr:Sp:=fun vs H Q E=>match vs with
 | [.ref x]=>Q (.str "closing") H
 |_=>False
def rD (aC aj aE aF ah ag ai:Addr):Sp:=fun vs H Q E=>match vs with
 | [.ref x]=> ∀y H',aW H H'→jQ (tbl aC aj aE aF ah ag ai) H' y "calling" →Q (.ref y) H'
 |_=>False
def qR (aC aj aE aF ah ag ai:Addr):Sp:=fun vs H Q E=>match vs with
 | [.ref x]=> ∀y H',aW H H'→jQ (tbl aC aj aE aF ah ag ai) H' y "leaving" →Q (.ref y) H'
 |_=>False
def uz (aC aj aE aF ah ag ai:Addr):Sp:=fun vs H Q E=>match vs with
 | [.ref x]=> ∀y H',aW H H'→jQ (tbl aC aj aE aF ah ag ai) H' y "leaving" →Q (.ref y) H'
 |_=>False
def uC (aC aj aE aF ah ag ai:Addr):Sp:=fun vs H Q E=>match vs with
 | [.ref x]=> ∀y H',aW H H'→jQ (tbl aC aj aE aF ah ag ai) H' y "closing" →Q (.ref y) H'
 |_=>False
def zj (aC aj aE aF ah ag ai:Addr):Sp:=fun vs H Q E=>match vs with
 | [.ref x]=> ∀y H',aW H H'→jQ (tbl aC aj aE aF ah ag ai) H' y "open" →Q (.ref y) H'
 |_=>False
def uE (aC aj aE aF ah ag ai:Addr):Sp:=fun vs H Q E=>match vs with
 | [.ref x]=> ∀y H',aW H H'→jQ (tbl aC aj aE aF ah ag ai) H' y "open" →Q (.ref y) H'
 |_=>False
def zo (aC aj aE aF ah ag ai:Addr):Sp:=fun vs H Q E=>match vs with
 | [.ref x]=> ∀y H',aW H H'→jQ (tbl aC aj aE aF ah ag ai) H' y "left" →Q (.ref y) H'
 |_=>False
def uD (aC aj aE aF ah ag ai:Addr):Sp:=fun vs H Q E=>match vs with
 | [.ref x]=> ∀y H',aW H H'→jQ (tbl aC aj aE aF ah ag ai) H' y "closing" →Q (.ref y) H'
 |_=>False
def uv (aC aj aE aF ah ag ai:Addr):Sp:=fun vs H Q E=>match vs with
 | [.ref x]=> ∀y H',aW H H'→jQ (tbl aC aj aE aF ah ag ai) H' y "shut" →Q (.ref y) H'
 |_=>False
def qP (aC aj aE aF ah ag ai:Addr):Sp:=fun vs H Q E=>match vs with
 | [.ref x]=> ∀y H',aW H H'→jQ (tbl aC aj aE aF ah ag ai) H' y "waiting" →Q (.ref y) H'
 |_=>False
def qQ (aC aj aE aF ah ag ai:Addr):Sp:=fun vs H Q E=>match vs with
 | [.ref x]=> ∀y H',aW H H'→jQ (tbl aC aj aE aF ah ag ai) H' y "shut" →Q (.ref y) H'
 |_=>False
def xY:Sp:=fun vs H Q E=>match vs with
 | [.ref x]=>Q (.ref x) H
 |_=>False
def xX:Sp:=fun vs H Q E=>match vs with
 | [.ref x]=>Q (.ref x) H
 |_=>False
def sQ:Sp:=fun vs H Q E=>match vs with
 | [.ref x]=>Q (.ref x) H
 |_=>False
def qK (aG aC aj aE aF ah ag ai:Addr):Sp:=fun vs H Q E=>match vs with
 | [.ref x]=> ∃nm,jQ (tbl aC aj aE aF ah ag ai) H x nm∧∀H' d,aW H H'→H' d=some (.xd [("state",.str nm),("wish",.str "begin")])→E (.ref aG) (some d) H'
 |_=>False
def sP (aG aC aj aE aF ah ag ai:Addr):Sp:=fun vs H Q E=>match vs with
 | [.ref x]=> ∃nm,jQ (tbl aC aj aE aF ah ag ai) H x nm∧∀H' d,aW H H'→H' d=some (.xd [("state",.str nm),("wish",.str "end")])→E (.ref aG) (some d) H'
 |_=>False
def rG:Sp:=fun vs H Q E=>match vs with
 | [.ref x]=>Q (.bl true) H
 |_=>False
def wz:Sp:=fun vs H Q E=>match vs with
 | [.ref x]=>Q (.bl true) H
 |_=>False
def wA:Sp:=fun vs H Q E=>match vs with
 | [.ref x]=>Q (.bl true) H
 |_=>False
def ux:Sp:=fun vs H Q E=>match vs with
 | [.ref x]=>Q (.bl false) H
 |_=>False
def uw (aC aj aE aF ah ag ai:Addr):Sp:=fun vs H Q E=>match vs with
 | [.ref x]=> ∃nm,jQ (tbl aC aj aE aF ah ag ai) H x nm∧Q (.str nm) H
 |_=>False
def AR (aC aj aE aF ah ag ai:Addr):Sp:=fun vs H Q E=>match vs with
 | [.ref x]=> ∃nm,jQ (tbl aC aj aE aF ah ag ai) H x nm∧Q (.bl (Qp nm)) H
 |_=>False
def wq (aG aC aj aE aF ah ag ai:Addr):Sp:=fun vs H Q E=>match vs with
 | [.ref x]=> ∃nm,jQ (tbl aC aj aE aF ah ag ai) H x nm∧(∀nx,pS nm "begin" = some nx→∀y H',aW H H'→jQ (tbl aC aj aE aF ah ag ai) H' y nx→Q (.ref y) H')∧(pS nm "begin" = none→∀H' d,aW H H'→H' d=some (.xd [("state",.str nm),("wish",.str "begin")])→E (.ref aG) (some d) H')
 |_=>False
def zc (aG aC aj aE aF ah ag ai:Addr):Sp:=fun vs H Q E=>match vs with
 | [.ref x]=> ∃nm,jQ (tbl aC aj aE aF ah ag ai) H x nm∧(∀nx,pS nm "end" = some nx→∀y H',aW H H'→jQ (tbl aC aj aE aF ah ag ai) H' y nx→Q (.ref y) H')∧(pS nm "end" = none→∀H' d,aW H H'→H' d=some (.xd [("state",.str nm),("wish",.str "end")])→E (.ref aG) (some d) H')
 |_=>False
def Dp (aC aj aE aF ah ag ai:Addr):Sp:=fun vs H Q E=>match vs with
 | [.ref x]=> ∃nm,jQ (tbl aC aj aE aF ah ag ai) H x nm∧(∀nx,pS nm "begun" = some nx→∀y H',aW H H'→jQ (tbl aC aj aE aF ah ag ai) H' y nx→Q (.ref y) H')
 |_=>False
def Dm (aC aj aE aF ah ag ai:Addr):Sp:=fun vs H Q E=>match vs with
 | [.ref x]=> ∃nm,jQ (tbl aC aj aE aF ah ag ai) H x nm∧(∀nx,pS nm "ended" = some nx→∀y H',aW H H'→jQ (tbl aC aj aE aF ah ag ai) H' y nx→Q (.ref y) H')
 |_=>False
def ze (aC aj aE aF ah ag ai:Addr):Sp:=fun vs H Q E=>match vs with
 | [.ref x]=> ∃nm,jQ (tbl aC aj aE aF ah ag ai) H x nm∧(∀nx,pS nm "answered" = some nx→∀y H',aW H H'→jQ (tbl aC aj aE aF ah ag ai) H' y nx→Q (.ref y) H')
 |_=>False
def Kp (S:List Addr) (H H':Hp):Prop:= ∀b o,H b=some o→b ∉ S→H' b=some o
theorem Kp.of {S:List Addr} {H H':Hp} (h:aW H H'):Kp S H H':=fun b o e _=>h b o e
theorem Kp.one {p:Addr} {H:Hp} {o:HO}:Kp [p] H (upd H p o):=fun b u e n=>by rw [ak (fun z=>n (by rw [z];exact List.mem_singleton.mpr rfl))];exact e
def Imm (o:HO):Prop:=(∃l,o = .tup l)∨(∃C d,o = .ins C d [])∨∃u v,o = .frz u v
theorem Kp.but {S:List Addr} {p:Addr} {H H':Hp} (h:cm p H H') (m:p∈S):Kp S H H':=fun b u e n=>h b u e fun z=>n (by rw [z];exact m)
structure HAd where
 dx:Addr
 tk:Addr
 dt:Addr
 kd:Addr
 sd:Addr
 S:Ad
 st:Addr
 pe:Addr
structure Hn where
 side:Int
 R:Int
 tk:Tk
 sd:Sd
 nm:Str
 due:Bool
 ends : List Int
noncomputable def foot (x:Addr) (A:HAd):List Addr:=[x,A.tk,A.kd,A.sd,A.S.pw,A.S.pm,A.S.pt,A.S.pk,A.S.pf,A.S.pa,A.pe]
structure c7 (CH CT CS CW CM:Addr) (tb:List (Addr×Str)) (H:Hp) (x:Addr) (A:HAd) (z:Hn):Prop where
 hx:H x=some (.ins CH A.dx (lr (.int z.side) (.int z.R) (.ref A.tk) (.ref A.sd) (.ref A.st) (.bl z.due) (.ref A.pe)))
 tk:pq CT H A.tk A.dt A.kd z.tk
 sd:cP CS CW CM H A.sd A.S z.sd
 st:jQ tb H A.st z.nm
 he:H A.pe=some (.lst (z.ends.map V.int))
 nd:(foot x A).Nodup
section
variable {CH CT CS CW CM:Addr} {tb:List (Addr×Str)} {H H':Hp} {x:Addr} {A:HAd} {z:Hn}
theorem cP.kp {CS CW CM x:Addr} {A:Ad} {z:Sd} {S:List Addr} (h:cP CS CW CM H x A z) (k:Kp S H H') (d: ∀b∈[x,A.pw,A.pm,A.pt,A.pk,A.pf,A.pa],b ∉ S) (tp: ∀t l,H t=some (.tup l)→t ∉ S):cP CS CW CM H' x A z:=by
 simp only [List.mem_cons,List.not_mem_nil,or_false] at d
 obtain ⟨e1,hi⟩:=h.ms
 exact ⟨k _ _ h.hx (d _ (by simp)),k _ _ h.ht (d _ (by simp)),k _ _ h.hk (d _ (by simp)),k _ _ h.hf (d _ (by simp)),k _ _ h.ha (d _ (by simp)),h.ws.keep (fun o q=>k _ _ q (d _ (by simp))) (fun t l q=>k _ _ q (tp t l q)),⟨k _ _ e1 (d _ (by simp)),hi⟩,h.kf,h.ka,h.fa,h.xw,h.xm,h.wm⟩
theorem c7.kp {S:List Addr} (h:c7 CH CT CS CW CM tb H x A z) (k:Kp S H H') (d: ∀b∈foot x A,b ∉ S) (im: ∀b o,H b=some o→Imm o→b ∉ S):c7 CH CT CS CW CM tb H' x A z:=by
 obtain ⟨C,dd,e,hm⟩:=h.st
 simp only [foot,List.mem_cons,List.not_mem_nil,or_false] at d
 exact ⟨k _ _ h.hx (d _ (by simp)),⟨k _ _ h.tk.hx (d _ (by simp)),k _ _ h.tk.hD (d _ (by simp))⟩,h.sd.kp k (fun b hb=>d _ (by simp only [List.mem_cons,List.not_mem_nil,or_false] at hb;rcases hb with q|q|q|q|q|q|q<;>subst q<;>simp)) (fun t l q=>im _ _ q (.inl ⟨l,rfl⟩)),
  ⟨C,dd,k _ _ e (im _ _ e (.inr (.inl ⟨C,dd,rfl⟩))),hm⟩,k _ _ h.he (d _ (by simp)),h.nd⟩
theorem c7.same (h:c7 CH CT CS CW CM tb H x A z) (s:aW H H'):c7 CH CT CS CW CM tb H' x A z:=h.kp (S:=[]) (Kp.of s) (fun _ _=>List.not_mem_nil) (fun _ _ _ _=>List.not_mem_nil)
end
theorem Bj {α β:Type} {R:α→β→Prop}: ∀{xs:List α} {ys:List β},Paired R xs ys→xs.length=ys.length
 |_,_,.nil=>rfl
 |_,_,.cons _ t=>by simp [Bj t]
theorem DN {α β:Type} {R:α→β→Prop}: ∀{xs:List α} {ys:List β} {i:Nat} {x:α},Paired R xs ys→xs[i]?=some x→∃y,ys[i]?=some y∧R x y
 |_,_,_,_,.nil,e=>by simp at e
 |_,_,0,_,.cons r _,e=>by simp at e;subst e;exact ⟨_,rfl,r⟩
 |_,_,i+1,_,.cons _ t,e=>by simpa using DN (i:=i) t (by simpa using e)
noncomputable def fB (z:Str):Bool:=decide (1≤z.length)&&decide (z.length≤60)&&(dB z).all JQ
noncomputable def chunk (t:Str) (i:Nat):Str:=Txt.slice t (some ((4*i:Nat):Int)) (some ((4*i+4:Nat):Int))
noncomputable def chunks (t:Str):List Str:=(List.range ((t.length+3) / 4)).map (chunk t)
def ThV (H:Hp) (v:V) (k s:Str):Prop:= ∃p,v = .ref p∧H p=some (.tup [.str k,.str s])
noncomputable def j1 (side R own other f l:Int):Hn:=⟨side,R,⟨R,own,0,0,[]⟩,⟨R,0,0,1,.non,false,[],[],[],[],l,f,0,MeterM.mn 2 other,none,other,other,0⟩,"shut",false,[]⟩
def y6 (CT:Addr) (H:Hp) (x:Addr) (r o t g f l:Int):Prop:= ∃dx p,H x=some (.ins CT dx (cX (.int r) (.ref p) (.int g) (.int f) (.int l)))∧H p=some (.tup [.int o,.int t])
theorem y6.same {CT x:Addr} {H H':Hp} {r o t g f l:Int} (h:y6 CT H x r o t g f l) (s:aW H H'):y6 CT H' x r o t g f l:=by
 obtain ⟨dx,p,h1,h2⟩:=h
 exact ⟨dx,p,s _ _ h1,s _ _ h2⟩
def nM:Sp:=fun vs H Q E=>match vs with
 | [.str z]=>z.length≤1000∧∀H',aW H H'→Q (.bl (fB z)) H'
 | [.non]=>Q (.bl false) H
 | [.int i]=>Q (.bl false) H
 |_=>False
def iL (aO aI af ay ar aC aj aE aF ah ag ai bj:Addr):Sp:=fun vs H Q E=>match vs with
 | [.ref x,.int side,.ref tm]=> ∃dx r o t g f l,H x=some (.ins aO dx [])∧y6 bj H tm r o t g f l∧good r o t g f l∧(side=0∨side=1)∧∀A H',cm x H H'→(∀b,b∈(foot x A).tail→H b=none)→c7 aO aI af ay ar (tbl aC aj aE aF ah ag ai) H' x A (j1 side r (if side=0 then o else t) (if side=0 then t else o) f l)→Q .non H'
 |_=>False
def n9 (aO aI af ay ar aC aj aE aF ah ag ai:Addr):Sp:=fun vs H Q E=>match vs with
 | [.ref x]=> ∃A z,c7 aO aI af ay ar (tbl aC aj aE aF ah ag ai) H x A z∧Q (.str z.nm) H
 |_=>False
def mS (aO aI af ay ar aC aj aE aF ah ag ai:Addr):Sp:=fun vs H Q E=>match vs with
 | [.ref x]=> ∃A z,c7 aO aI af ay ar (tbl aC aj aE aF ah ag ai) H x A z∧Q (.bl (decide (z.sd.b=z.sd.t)&&decide (z.sd.t=z.sd.T.length) && !z.due)) H
 |_=>False
def zr (aO aI af ay ar aC aj aE aF ah ag ai aG:Addr) (K:PySem.W.Frag):Sp:=fun vs H Q E=>match vs with
 | [.ref x]=> ∃A z,c7 aO aI af ay ar (tbl aC aj aE aF ah ag ai) H x A z∧z.sd.T.length<1000∧(∀nx,pS z.nm "begin" = some nx→∀a st' H',(∀H,iD K H a [.str "begin",.str ""])→Kp (foot x A) H H'→c7 aO aI af ay ar (tbl aC aj aE aF ah ag ai) H' x {A with st:=st'} {z with nm:=nx,sd:={z.sd with T:=z.sd.T++ [.ref a]}}→Q .non H')∧(pS z.nm "begin" = none→∀H' d,aW H H'→H' d=some (.xd [("state",.str z.nm),("wish",.str "begin")])→E (.ref aG) (some d) H')
 |_=>False
def Cn (aO aI af ay ar aC aj aE aF ah ag ai aG:Addr) (K:PySem.W.Frag):Sp:=fun vs H Q E=>match vs with
 | [.ref x]=> ∃A z,c7 aO aI af ay ar (tbl aC aj aE aF ah ag ai) H x A z∧z.sd.T.length<1000∧z.ends.length<1000∧(∀nx,pS z.nm "end" = some nx→∀a st' H',(∀H,iD K H a [.str "end",.str ""])→Kp (foot x A) H H'→c7 aO aI af ay ar (tbl aC aj aE aF ah ag ai) H' x {A with st:=st'} {z with nm:=nx,ends:=z.ends++ [(z.sd.T.length:Int)],sd:={z.sd with T:=z.sd.T++ [.ref a]}}→Q .non H')∧(pS z.nm "end" = none→∀H' d,aW H H'→H' d=some (.xd [("state",.str z.nm),("wish",.str "end")])→E (.ref aG) (some d) H')
 |_=>False
def Ck (aO aI af ay ar aC aj aE aF ah ag ai aG aL:Addr):Sp:=fun vs H Q E=>match vs with
 | [.ref x,.str t]=> ∃A z,c7 aO aI af ay ar (tbl aC aj aE aF ah ag ai) H x A z∧z.sd.T.length≤980∧t.length≤1000∧(fB t=false→∀H',aW H H'→E (.ref aL) none H')∧(fB t=true→Qp z.nm=false→∀H' d,aW H H'→H' d=some (.xd [("state",.str z.nm),("wish",.str "put")])→E (.ref aG) (some d) H')∧(fB t=true→Qp z.nm=true→∀vs H',Kp (foot x A) H H'→c7 aO aI af ay ar (tbl aC aj aE aF ah ag ai) H' x A {z with sd:={z.sd with T:=z.sd.T++vs}}→Paired (fun v s=>ThV H' v "signs" s) vs (chunks t)→Q .non H')
 |_=>False
def nN:Sp:=fun vs H Q E=>match vs with
 | [.int v,.int l,.int h]=>Q (.bl (bK v l h)) H
 | [.non,.int l,.int h]=>Q (.bl false) H
 | [.str z,.int l,.int h]=>Q (.bl false) H
 |_=>False
def dA (aw:Addr):Sp:=fun vs H Q E=>match vs with
 | [.ref e,v]=>H e=some (.ext (y9 e aw none))∧∀d,H d=none→Q .non (upd (upd H d (.xd [("at",v)])) e (.ext (y9 e aw (some d))))
 |_=>False
def qv (H:Hp) (c:Addr) (d p r:Int):Prop:=H c=some (.tup [.int d,.int p,.int r])
noncomputable def mv (d p r lag:Int):Bool:=bK d 1 lag&&bK p 0 66&&bK r 0 255
def rq:Sp:=fun vs H Q E=>match vs with
 | [.ref c,.int lag]=> ∃d p r,qv H c d p r∧Q (.bl (mv d p r lag)) H
 |_=>False
noncomputable abbrev Cp:=Int×Int×Int
def bP (H:Hp) (x:Addr) (ds:List Cp):Prop:= ∃cs:List Addr,H x=some (.lst (cs.map V.ref))∧Paired (fun c (d:Cp)=>qv H c d.1 d.2.1 d.2.2) cs ds∧ds.length≤1000
noncomputable def iw (lag:Int) (ds:List Cp):Bool:=decide (ds.length≤3)&&ds.all fun d=>mv d.1 d.2.1 d.2.2 lag
def nq (H:Hp) (x:Addr) (dss:List (List Cp)):Prop:= ∃xs:List Addr,H x=some (.lst (xs.map V.ref))∧Paired (bP H) xs dss∧dss.length≤1000
def rp:Sp:=fun vs H Q E=>match vs with
 | [.ref x,.int lag]=> ∃ds,bP H x ds∧∀H',aW H H'→Q (.bl (iw lag ds)) H'
 |_=>False
def mM (aw:Addr):Sp:=fun vs H Q E=>match vs with
 | [.ref x,.int lag]=> ∃dss,nq H x dss∧(bK lag 1 60=true→dss.length≤60→(∀ds∈dss,iw lag ds=true)→∀H',aW H H'→Q .non H')∧((bK lag 1 60=false∨60<dss.length)→∀H' d,aW H H'→H' d=some (.xd [("at",.non)])→E (.ref aw) (some d) H')∧(bK lag 1 60=true→dss.length≤60→∀(i:Nat) ds,dss[i]?=some ds→iw lag ds=false→(∀j<i,∀ds,dss[j]?=some ds→iw lag ds=true)→∀H' d,aW H H'→H' d=some (.xd [("at",.int i)])→E (.ref aw) (some d) H')
 |_=>False
theorem bz {α β:Type} {R:α→β→Prop} {xs:List α} {ys:List β} (p:Paired R xs ys):xs.length=ys.length:=by
 induction p with
 |nil=>rfl
 |cons _ _ ih=>simp [ih]
theorem oz {α β:Type} {R:α→β→Prop} {xs:List α} {ys:List β} (p:Paired R xs ys) {i:Nat} {x:α} (h:xs[i]?=some x): ∃y,ys[i]?=some y∧R x y:=by
 induction p generalizing i with
 |nil=>simp at h
 |cons r _ ih=>
  cases i with
  |zero=>simp at h;subst h;exact ⟨_,rfl,r⟩
  |succ i=>simpa using ih (by simpa using h)
theorem aP {α β:Type} {R R':α→β→Prop} {xs:List α} {ys:List β} (p:Paired R xs ys) (h: ∀x y,R x y→R' x y):Paired R' xs ys:=by
 induction p with
 |nil=>exact .nil
 |cons r _ ih=>exact .cons (h _ _ r) ih
theorem bP.same {H H':Hp} {x:Addr} {ds:List Cp} (h:bP H x ds) (s:aW H H'):bP H' x ds:=by
 obtain ⟨cs,h1,h2,h3⟩:=h
 exact ⟨cs,s _ _ h1,aP h2 fun c d q=>s _ _ q,h3⟩
theorem nq.same {H H':Hp} {x:Addr} {dss:List (List Cp)} (h:nq H x dss) (s:aW H H'):nq H' x dss:=by
 obtain ⟨xs,h1,h2,h3⟩:=h
 exact ⟨xs,s _ _ h1,aP h2 fun c d q=>q.same s,h3⟩
def RL (H0 H:Hp) (p:Addr) (dss:List (List Cp)):Prop:=H0 p=none∧∃xs:List Addr,H p=some (.lst (xs.map V.ref))∧Paired (fun x ds=>H0 x=none∧bP H x ds) xs dss∧dss.length≤1000
def t_:Sp:=fun vs H Q E=>match vs with
 | [.ref x]=> ∃dss,nq H x dss∧∀p H',aW H H'→RL H H' p dss→Q (.ref p) H'
 |_=>False
def Dl:Sp:=fun vs H Q E=>match vs with
 | [.ref x,.int n]=> ∃dss,nq H x dss∧∀p H',aW H H'→H p=none→bP H' p (if dss.length=0 then [(1,0,0)] else dss.getD (n % dss.length).toNat [])→Q (.ref p) H'
 |_=>False
noncomputable abbrev Cm:=Int×Int×Int×Int
def CmT (H:Hp) (c:Addr) (m:Cm):Prop:=H c=some (.tup [.int m.1,.int m.2.1,.int m.2.2.1,.int m.2.2.2])
theorem fq {α β:Type} {R:α→β→Prop} {xs:List α} {ys:List β} {x:α} {y:β} (p:Paired R xs ys) (r:R x y):Paired R (xs++ [x]) (ys++ [y]):=by
 induction p with
 |nil=>exact .cons r .nil
 |cons q _ ih=>exact .cons q ih
def afK (H:Hp) (pd pc:Addr) (dss:List (List Cp)):Prop:= ∃xs:List Addr,H pd=some (.lst (xs.map V.ref))∧Paired (fun x ds=>x≠pc∧bP H x ds) xs dss∧dss.length≤1000
structure kW (aY:Addr) (H:Hp) (r:Addr) (dx pd pc:Addr) (dss:List (List Cp)) (sn:Int) (ms:List Cm):Prop where
 hr:H r=some (.ins aY dx (mK (.ref pd) (.int sn) (.ref pc)))
 hd:afK H pd pc dss
 hc: ∃cs:List Addr,H pc=some (.lst (cs.map V.ref))∧Paired (CmT H) cs ms
 ne:pd≠pc
def iK (aY aw:Addr):Sp:=fun vs H Q E=>match vs with
 | [.ref r,.ref x,.int lag]=> ∃dss dx,nq H x dss∧H r=some (.ins aY dx [])∧(bK lag 1 60=true→dss.length≤60→(∀ds∈dss,iw lag ds=true)→∀H' pd pc,cm r H H'→RL H H' pd dss→H pc=none→kW aY H' r dx pd pc dss 0 []→Q .non H')∧((bK lag 1 60=false∨60<dss.length)→∀H' d,aW H H'→H' d=some (.xd [("at",.non)])→E (.ref aw) (some d) H')∧(bK lag 1 60=true→dss.length≤60→∀(i:Nat) ds,dss[i]?=some ds→iw lag ds=false→(∀j<i,∀ds,dss[j]?=some ds→iw lag ds=true)→∀H' d,aW H H'→H' d=some (.xd [("at",.int i)])→E (.ref aw) (some d) H')
 |_=>False
def fH (aY:Addr):Sp:=fun vs H Q E=>match vs with
 | [.ref r]=> ∃dx pd pc dss sn ms,kW aY H r dx pd pc dss sn ms∧Q (.int (ms.length:Nat)) H
 |_=>False
noncomputable def D_ (dss:List (List Cp)) (n:Int):List Cp:=if dss.length=0 then [(1,0,0)] else dss.getD (n % dss.length).toNat []
noncomputable def abC (turn sn frame:Int) (i:Nat) (d:Cp):Cm:=(turn+d.1,sn,(i:Int),Builtin.bitXor frame (d.2.2*2 ^ d.2.1.toNat))
noncomputable def afu (turn sn frame:Int) (ds:List Cp):List Cm:=ds.mapIdx (abC turn sn frame)
def FrR (r pc:Addr) (H H':Hp):Prop:= ∀b o,H b=some o→b≠r→b≠pc→H' b=some o
def AU (aY:Addr):Sp:=fun vs H Q E=>match vs with
 | [.ref r,.int turn,.int frame]=> ∃dx pd pc dss sn ms,kW aY H r dx pd pc dss sn ms∧(∀d∈D_ dss sn,mv d.1 d.2.1 d.2.2 60=true)∧(D_ dss sn).length≤3∧ms.length≤900∧∀H',FrR r pc H H'→kW aY H' r dx pd pc dss (sn+1) (ms++afu turn sn frame (D_ dss sn))→Q (.int sn) H'
 |_=>False
theorem QP {K:PySem.W.Frag} {H:Hp} {Q:VK} (q:Q (.bl false) H):mB K [.non,.ty "int"] H Q:=⟨_,false,q5.non,by first|rfl|kernel_rfl,q⟩
theorem QO {K:PySem.W.Frag} {H:Hp} {Q:VK} (q:Q (.bl false) H):mB K [.non,.ty "str"] H Q:=⟨_,false,q5.non,by first|rfl|kernel_rfl,q⟩
def bwB (v:V):Prop:=v = .non∨(∃i,v = .int i)∨∃z,v = .str z∧z.length≤1000
noncomputable def sI (k:Str) (v:V):Bool:=if k = "put" then (match v with | .str z=>fB z|_=>false) else if k = "read" then (match v with | .int i=>bK i 1 60|_=>false) else (decide (k = "begin")||decide (k = "end"))&&decide (v = .non)
noncomputable abbrev Ww:=Int×Int×Str×V
noncomputable def cn (w:Ww):Bool:=bK w.1 0 400&&bK w.2.1 0 1&&sI w.2.2.1 w.2.2.2
def C9 (H:Hp) (x:Addr) (w:Ww):Prop:=H x=some (.tup [.int w.1,.int w.2.1,.str w.2.2.1,w.2.2.2])∧bwB w.2.2.2
def qu (H:Hp) (p:Addr) (ws:List Ww):Prop:= ∃xs:List Addr,H p=some (.lst (xs.map V.ref))∧Paired (C9 H) xs ws∧ws.length≤1000
def pD:Sp:=fun vs H Q E=>match vs with
 | [.str k,v]=>bwB v∧∀H',aW H H'→Q (.bl (sI k v)) H'
 |_=>False
def ro:Sp:=fun vs H Q E=>match vs with
 | [.ref x]=> ∃w,C9 H x w∧∀H',aW H H'→Q (.bl (cn w)) H'
 |_=>False
def dz (az:Addr):Sp:=fun vs H Q E=>match vs with
 | [.ref e,v]=>H e=some (.ext (y9 e az none))∧∀d,H d=none→Q .non (upd (upd H d (.xd [("at",v)])) e (.ext (y9 e az (some d))))
 |_=>False
def ki (az:Addr):Sp:=fun vs H Q E=>match vs with
 | [.ref p]=> ∃ws,qu H p ws∧(ws.length≤60→(∀w∈ws,cn w=true)→∀H',aW H H'→Q .non H')∧(∀(i:Nat),i≤60→i<ws.length→(i=60∨∃w,ws[i]?=some w∧cn w=false)→(∀j<i,∀w,ws[j]?=some w→cn w=true)→∀H' d,aW H H'→H' d=some (.xd [("at",.int i)])→E (.ref az) (some d) H')
 |_=>False
theorem C9.same {H H':Hp} {x:Addr} {w:Ww} (h:C9 H x w) (s:aW H H'):C9 H' x w:=⟨s _ _ h.1,h.2⟩
theorem qu.same {H H':Hp} {p:Addr} {ws:List Ww} (h:qu H p ws) (s:aW H H'):qu H' p ws:=by
 obtain ⟨xs,h1,h2,h3⟩:=h
 exact ⟨xs,s _ _ h1,aP h2 fun c d q=>q.same s,h3⟩
def O_ (ws:List Ww) (M:Int):Prop:=(ws= []∧M = -1)∨((∃w∈ws,w.1=M)∧∀w∈ws,w.1≤M)
def kh:Sp:=fun vs H Q E=>match vs with
 | [.ref p]=> ∃ws,qu H p ws∧∀M H',aW H H'→O_ ws M→Q (.int M) H'
 |_=>False
structure aa2 (CW CRo CH CT CS CWy CM:Addr) (tb:List (Addr×Str)) (H:Hp) (x dx tm rds ded wl hs os td r0 r1 h0 h1 o0 o1:Addr) (M:Int) (da db:List (List Cp)) (A0 A1:HAd) (z0 z1:Hn):Prop where
 hx:H x=some (.ins CW dx (cj (.ref rds) (.ref tm) (.ref ded) (.ref wl) (.int M) (.ref hs) (.ref os) (.ref td) (.int 0)))
 hr:H rds=some (.tup [.ref r0,.ref r1])
 ra: ∃dx pd pc,kW CRo H r0 dx pd pc da 0 []
 rb: ∃dx pd pc,kW CRo H r1 dx pd pc db 0 []
 hh:H hs=some (.tup [.ref h0,.ref h1])
 ha:c7 CH CT CS CWy CM tb H h0 A0 z0
 hb:c7 CH CT CS CWy CM tb H h1 A1 z1
 ho:H os=some (.tup [.ref o0,.ref o1])
 oa:H o0=some (.lst [])
 ob:H o1=some (.lst [])
 ht:H td=some (.lst [])
theorem kW.same {C r dx pd pc:Addr} {H H':Hp} {dss:List (List Cp)} {sn:Int} {ms:List Cm} (h:kW C H r dx pd pc dss sn ms) (s:aW H H'):kW C H' r dx pd pc dss sn ms:=by
 obtain ⟨cs,c1,c2⟩:=h.hc
 obtain ⟨xs,x1,x2,x3⟩:=h.hd
 exact ⟨s _ _ h.hr,⟨xs,s _ _ x1,aP x2 fun a b q=>⟨q.1,q.2.same s⟩,x3⟩,⟨cs,s _ _ c1,aP c2 fun a b q=>s _ _ q⟩,h.ne⟩
def lV (g:Int) (dss:List (List Cp)):Prop:= ∀ds∈dss,iw g ds=true
def cY (g:Int) (dss:List (List Cp)) (i:Nat):Prop:=(∃ds,dss[i]?=some ds∧iw g ds=false)∧∀j<i,∀ds,dss[j]?=some ds→iw g ds=true
def fv (ws:List Ww) (i:Nat):Prop:=i≤60∧i<ws.length∧(i=60∨∃w,ws[i]?=some w∧cn w=false)∧∀j<i,∀w,ws[j]?=some w→cn w=true
def iJ (aT aY aO aI af ay ar aC aj aE aF ah ag ai bj aw az:Addr):Sp:=fun vs H Q E=>match vs with
 | [.ref x,.ref tm,.ref rd,.ref wi]=> ∃dx r o t g f l pa pb da db ws,H x=some (.ins aT dx [])∧y6 bj H tm r o t g f l∧good r o t g f l∧H rd=some (.tup [.ref pa,.ref pb])∧nq H pa da∧nq H pb db∧(da.length≤60∧db.length≤60)∧qu H wi ws∧(∀i,cY g da i→∀H' d,aW H H'→H' d=some (.xd [("at",.int i)])→E (.ref aw) (some d) H')∧(lV g da→∀i,cY g db i→∀H' d,aW H H'→H' d=some (.xd [("at",.int i)])→E (.ref aw) (some d) H')∧(lV g da→lV g db→∀i,fv ws i→∀H' d,cm x H H'→H' d=some (.xd [("at",.int i)])→E (.ref az) (some d) H')∧(lV g da→lV g db→ws.length≤60→(∀w∈ws,cn w=true)→∀H' rds ded wl hs os td r0 r1 h0 h1 o0 o1 M A0 A1,cm x H H'→O_ ws M→aa2 aT aY aO aI af ay ar (tbl aC aj aE aF ah ag ai) H' x dx tm rds ded wl hs os td r0 r1 h0 h1 o0 o1 M da db A0 A1 (j1 0 r o t f l) (j1 1 r t o f l)→Q .non H')
 |_=>False
def JR (CW CRo CH CT CS CWy CM:Addr) (tb:List (Addr×Str)) (H:Hp) (x:Addr) (M:Int):Prop:= ∃dx tm rds ded wl hs os td r0 r1 h0 h1 o0 o1 da db A0 A1 r o t f l,aa2 CW CRo CH CT CS CWy CM tb H x dx tm rds ded wl hs os td r0 r1 h0 h1 o0 o1 M da db A0 A1 (j1 0 r o t f l) (j1 1 r t o f l)
def lH (aT aY aO aI af ay ar aC aj aE aF ah ag ai:Addr):Sp:=fun vs H Q E=>match vs with
 | [.ref x,.int side]=>(side=0∨side=1)∧∃M,JR aT aY aO aI af ay ar (tbl aC aj aE aF ah ag ai) H x M∧Q (.int 0) H
 |_=>False
def cI (aT aY aO aI af ay ar aC aj aE aF ah ag ai:Addr):Sp:=fun vs H Q E=>match vs with
 | [.ref x,.int side]=>(side=0∨side=1)∧∃M,JR aT aY aO aI af ay ar (tbl aC aj aE aF ah ag ai) H x M∧Q (.bl true) H
 |_=>False
def mR (aT aY aO aI af ay ar aC aj aE aF ah ag ai:Addr):Sp:=fun vs H Q E=>match vs with
 | [.ref x]=> ∃M,JR aT aY aO aI af ay ar (tbl aC aj aE aF ah ag ai) H x M∧∀H',aW H H'→Q (.bl (decide (M<0))) H'
 |_=>False
def nT (aT aY aO aI af ay ar aC aj aE aF ah ag ai:Addr):Sp:=fun vs H Q E=>match vs with
 | [.ref x]=> ∃M,JR aT aY aO aI af ay ar (tbl aC aj aE aF ah ag ai) H x M∧∀p H',aW H H'→H' p=some (.lst [])→Q (.ref p) H'
 |_=>False
def iI (aT aY aO aI af ay ar aC aj aE aF ah ag ai:Addr):Sp:=fun vs H Q E=>match vs with
 | [.ref x,.int side]=>(side=0∨side=1)∧∃M,JR aT aY aO aI af ay ar (tbl aC aj aE aF ah ag ai) H x M∧∀p H',aW H H'→H' p=some (.lst [])→Q (.ref p) H'
 |_=>False
def fE (aT aY aO aI af ay ar aC aj aE aF ah ag ai:Addr):Sp:=fun vs H Q E=>match vs with
 | [.ref x,.int side]=>(side=0∨side=1)∧∃M,JR aT aY aO aI af ay ar (tbl aC aj aE aF ah ag ai) H x M∧∀p H',aW H H'→H' p=some (.lst [])→Q (.ref p) H'
 |_=>False
def rl:Sp:=fun vs H Q E=>match vs with
 | [.ref x]=>False∧Q .non H
 |_=>False
def kl (K:PySem.W.Frag):Sp:=fun vs H Q E=>match vs with
 | [.ref a,.int k]=> ∃ns:List Int,bU K H a (ns.map V.int)∧0≤k∧∀n,Q (.int n) H
 |_=>False
def mP:Sp:=fun vs H Q E=>match vs with
 | [.int c,.int k]=> ∀v,0≤v→v<2147483647→Q (.int v) H
 |_=>False
def nR:Sp:=fun vs H Q E=>match vs with
 | [.int c,.int n]=>(0≤c∧c<2147483647)∧(0≤n∧n≤100)∧∀z H',aW H H'→(z.length:Int)=n→(∀c∈z.cps.toList,c∈sgl)→Q (.str z) H'
 |_=>False
def nQ:Sp:=fun vs H Q E=>match vs with
 | [.int c]=> ∀x w H',aW H H'→C9 H' x w→cn w=true→Q (.ref x) H'
 |_=>False
def mQ:Sp:=fun vs H Q E=>match vs with
 | [.int c,.int lag]=>(1≤lag∧lag≤32)∧∀p dss H',aW H H'→RL H H' p dss→dss.length≤5→(∀ds∈dss,ds.length=1∧iw lag ds=true)→Q (.ref p) H'
 |_=>False
def mN:Sp:=fun vs H Q E=>match vs with
 | [.ref x,.int c]=> ∃w,C9 H x w∧cn w=true∧(0≤c∧c<2147483647)∧∀y w' H',aW H H'→C9 H' y w'→cn w'=false→Q (.ref y) H'
 |_=>False
def mO:Sp:=fun vs H Q E=>match vs with
 | [.ref p,.int c,.int lag]=>(0≤c∧c<2147483647)∧(1≤lag∧lag≤32)∧∃dss xs,H p=some (.lst (xs.map V.ref))∧Paired (bP H) xs dss∧dss.length≤5∧lV lag dss∧∀(i:Nat) dss' xs' H',cm p H H'→H' p=some (.lst (xs'.map V.ref))→Paired (bP H') xs' dss'→(∀x∈xs',x∈xs∨H x=none)→dss'.length≤7→cY lag dss' i→Q (.int i) H'
 |_=>False
def C7 (g:Int) (da db:List (List Cp)) (ws:List Ww) (k:Str) (v:V):Prop:=(k = "road" ∧∃i:Nat,v = .int i∧(cY g da i∨(lV g da∧cY g db i)))∨(k = "wish" ∧lV g da∧lV g db∧∃i:Nat,v = .int i∧fv ws i)∨(k = "walk" ∧v = .non∧lV g da∧lV g db∧ws.length≤60∧∀w∈ws,cn w=true)
def kj (aT aY aO aI af ay ar aC aj aE aF ah ag ai bj aw az:Addr):Sp:=fun vs H Q E=>match vs with
 | [.ref tm,.ref rd,.ref wi]=> ∃r o t g f l pa pb da db ws,y6 bj H tm r o t g f l∧good r o t g f l∧H rd=some (.tup [.ref pa,.ref pb])∧nq H pa da∧nq H pb db∧(da.length≤60∧db.length≤60)∧qu H wi ws∧∀p k v H',aW H H'→H' p=some (.tup [.str k,v,.bl true])→C7 g da db ws k v→Q (.ref p) H'
 |_=>False
set_option compiler.extract_closed false in
local macro_rules | `(tactic| exists $es,*) => `(tactic| simp only [Pn,RV,RN,tUn,J0,tC,Dk,o6,Pl,GX,Py,R3,Pr,LD,tB,RW,R5,tOr,Cj,sL,AO,RO,G3,LJ,abk,LG,tIf,Ez,tSl,J1,LF,Kv,PX,PL,aaR,aaP,Bf,Bc,Be,A_,DK,DA,F_,F9,FV,FU,Kg,Kh,Kf,Ki,Kj,Kd,Ke,FL,FP,HD,Hk,HC,Hj,Ky,Ka,Kq,DF,PU,PR,abn,R4,JY,JX,Cy,He,Hv,Hw,G0,Fs,Fq,Fp,Ft,Di,Dh,Dg,FC,FA,Fz,Ed,HK,HJ,Hd,DE,Ct,Bg,Bh,FG,Pk,Pq,tCs,tTC,Jo,D7,Jq,afy,Pj,Ez,Dq,G6,Option.join_some,LC,aa7,LB,RC,Rl,
 L2.start,List.map_cons,List.map_nil,List.length_cons,List.length_nil,List.replicate_zero,List.replicate_succ,List.append_nil,List.nil_append,List.cons_append,List.getElem?_cons_zero,List.getElem?_cons_succ,List.set_cons_zero,List.set_cons_succ,decide_eq_true_eq,Bool.not_eq_true',decide_eq_false_iff_not,if_true,if_false,ite_true,ite_false,Bool.false_eq_true,true_and,and_true,Bool.not_true,Bool.not_false,Int.reduceLT,Int.reduceLE,Int.reducePow,Int.reduceToNat,Int.reduceAdd,Int.reduceSub,Int.reduceMul,Int.reduceNeg,Nat.reducePow,Nat.reduceLT,Nat.reduceLeDiff,true_or,or_true,Int.reduceEq,and_self,Nat.reduceAdd,Nat.reduceSub,Int.neg_neg,reduceCtorEq,not_true_eq_false,not_false_eq_true,
 AQ,nP,nO,du,fF,fJ,sR,xZ,zp,uA,uB,Fv,iH,qI,qJ,rz,uu,wo,zk,lI,ko,lJ,qL,o8,nV,pE,o9,qM,qO,qN,rE,nX,uy,nY,AS,wy,d7,G5,fG,rC,nt,zg,wu,zh,rF,nU,ku,nZ,n8,kq,km,kr,rD,qR,uz,uC,zj,uE,zo,uD,uv,qP,qQ,xY,xX,sQ,qK,sP,rG,wz,wA,ux,uw,AR,wq,zc,Dp,Dm,ze,nM,iL,n9,mS,zr,Cn,Ck,nN,dA,rq,rp,mM,t_,Dl,iK,fH,AU,pD,ro,dz,ki,kh,iJ,lH,cI,mR,nT,iI,fE,rl,kl,mP,nR,nQ,mQ,mN,mO,kj,LI,LK,R9,Pp,Ey,Hy,FF,F8,Kb,Jv,aa,Ew,L2.Rj,yT,yS,yR,yQ,yP,yO,BI,zG,zF,zE,zD,zC,zB,CN,xp,xo,xn,xk,xj,xi,xh,xg,xf,xc,w_,w9,w6,w5,wZ,wY,wX,wW,vy,vx,vw,vv,zK,p8,sr,tL,tK,yN,yM,yL,yK,yJ,yI,BH,vt,vq,zX,zW,zV,zU,zS,zR,zQ,zP,zO,zN,zM,zL,CO,tM,sC,tN,oQ,xq,vA,ri,jX,rh,m_,wg,su,qd,zJ,zI,zH,tF,ph,tG,vk,vj,vi,tE,vh,m9,wV,qX,pZ,yH,yG,yF,yE,yD,yC,BG,tI,r_,vp,se,p7,G1,HH,Rx,Ry,F7,aaU,PJ,F5,aaS,Pu,Hu,QQ,F6,Rr,abo,RY,Po,RX,tHn,tHt,RI,RJ,JM,F0,Jv,aa,Ew,PD,Aj,An,GY,FZ,RU,FJ,DC,Gq,FQ,Qq,tSw,EA,EB,abj,J2,FI,R7,PF,FH,R6,R0,De,Pw,DL,Ru,Aj,Dj,Ec,FD,FN,GY,An,RT,tHc,tH0,Z3,Z4,Px,GZ,abl,Ends.un,Ex,AN,G8,LH,F3,Rm,Rn,aaO,Ri,HB,Hi,HA,Hh,Kx,J_,Gv,Pd,Pc,FY,Ht,GA,Lh,Li,Iu,QD,QF,K6,DG,Pt,DH,aaQ,DJ,Cv,DB,Cu,Cw,FW,Hr,Hq,K3,K2,C6,C5,aa1,aa0,aaZ,aaY,L2.JL,GB,Rg,FT,FR,Im,Il,F1,Km,Ko,Kk,IB,IC,Rk,Ll,tSw,EA,EB,FK,FO,$[$es:term],*])
local macro_rules | `(tactic| walk_at "wps") => `(tactic| exists true_and)
section
variable {ar ay af aI aO aY aT bj aQ aK aS aJ aw aD aB aL aG az lx aC aj aE aF ah ag ai:Addr} {P:Program} {w:World} {K:PySem.W.Frag} {mg:Str→Option Value} {base:Heap}
variable (T:Txt K mg ar ay af aI aO aY aT bj aQ aK aS aJ aw aD aB aL aG az lx aC aj aE aF ah ag ai)
set_option hygiene false in
local macro_rules | `(tactic| exists 0, $a, $b, $c, $d:ident) => `(tactic| (refine ($a).fn $b $c (fun vs H Q E h => ?_) fun f cdv A outer s H vs Q E HR h => ?_; (unfold $d at h; split at h <;> first | rfl | exact h.elim); unfold $d at h; split at h; rotate_left; exact h.elim))
set_option hygiene false in
local macro_rules | `(tactic| exists 1, $a, $b, $c, $d:ident) => `(tactic| (refine ($a).fnX $b $c (fun vs H Q E h => ?_) fun f cdv A outer s H vs Q E HR h => ?_; (unfold $d at h; split at h <;> first | rfl | exact h.elim); unfold $d at h; split at h; rotate_left; exact h.elim))
theorem bS (T:Txt K mg ar ay af aI aO aY aT bj aQ aK aS aJ aw aD aB aL aG az lx aC aj aE aF ah ag ai):FnAt P w K mg base (fA P w) "is_from" 1 ["value","low","high"] nN:=by
 refine T.vI.fn Dw Em (fun vs H Q E h=>?_) fun f cdv A outer s H vs Q E HR h=>?_
 ·unfold nN at h;split at h<;>first|rfl|exact h.elim
 ·
  unfold nN at h
  split at h
  ·
   rename_i v l h'
   refine ⟨_,(aM (ba (bu (aV (fw K rfl) (by rfl) T.a9 a8 (ax (pv 0) (ax (lW rfl T.AI BQ) aq))) (bu (uT (aV (fw K rfl) (by rfl) T.a9 a8 (ax (pv 0) (ax (lW rfl T.sG tS) aq)))) (b9 (lX nC nC (pv 1) (pv 0) (pv 2))))))),?_⟩
   walk_at "wps"
   unfold bK at h
   by_cases c:l≤v
   ·
    rw [if_pos c]
    simpa only [c,decide_true,Bool.true_and] using h
   ·
    rw [if_neg c]
    simpa only [c,decide_false,Bool.false_and] using h
  ·
   rename_i l h'
   refine ⟨_,(aM (ba (bu (aV (fw K rfl) (by rfl) T.a9 a8 (ax (pv 0) (ax (lW rfl T.AI BQ) aq))) (bu (uT (aV (fw K rfl) (by rfl) T.a9 a8 (ax (pv 0) (ax (lW rfl T.sG tS) aq)))) (b9 (lX nC nC (pv 1) (pv 0) (pv 2))))))),?_⟩
   walk_at "wps"
   exact QP ⟨false,rfl,h⟩
  ·
   rename_i z l h'
   refine ⟨_,(aM (ba (bu (aV (fw K rfl) (by rfl) T.a9 a8 (ax (pv 0) (ax (lW rfl T.AI BQ) aq))) (bu (uT (aV (fw K rfl) (by rfl) T.a9 a8 (ax (pv 0) (ax (lW rfl T.sG tS) aq)))) (b9 (lX nC nC (pv 1) (pv 0) (pv 2))))))),?_⟩
   walk_at "wps"
   exact h
  ·exact h.elim
include T in theorem KY:FnAt P w K mg base (fA P w) "need" 1 ["room","lag"] AQ:=by
 exists 0,T.Ea,J6,Lx,AQ
 rename_i r l
 refine ⟨_,(aM (ba (CA (bR (bq K rfl HR.units) (pv 0) ae (nomark _)) (aN (bb K rfl) ae (aN bF (pv 1) ae)) (aN lY (aN (bb K rfl) (aN yi ae (pv 0)) (pv 1)) ae)))),?_⟩
 walk_at "wps"
 unfold lZ at h
 split
 ·rename_i c;rw [if_pos c] at h;exact h
 ·rename_i c;rw [if_neg c] at h;exact h
include T in theorem Bo:FnAt P w K mg base (fA P w) "are_waits" 2 ["first","longest"] nO:=by
 exists 0,T.qf,AX,BR,nO
 rename_i f l
 refine ⟨_,(aM (ba (bu (bg (bS T) HR (by decide) rfl (ax (pv 1) (ax (cp rfl T.cy) (ax (cp rfl T.qq) aq)))) (b9 (bg (bS T) HR (by decide) rfl (ax (pv 0) (ax (cp rfl T.cy) (ax (pv 1) aq)))))))),?_⟩
 walk_at "wps"
 by_cases c:2≤l∧l≤64
 ·
  rw [if_pos (BF c)]
  have e:bK f 2 l=decide ((2≤l∧l≤64)∧2≤f∧f≤l):=by rw [Bool.eq_iff_iff,lz,decide_eq_true_eq];exact ⟨fun k=>⟨c,k⟩,fun k=>k.2⟩
  rw [e];exact h
 ·
  rw [if_neg (by rw [qC c];decide)]
  rw [decide_eq_false (fun k=>c k.1)] at h
  exact h
include T in theorem qV:cC P w K mg base (fA P w) aB "__init__" 1 ["self","least"] (du aB):=by
 exists 0,T.fc,qS,qY,du
 rename_i e l
 refine ⟨_,(aM (ye T.qw T.c8 (pv 0) (pv 1))),?_⟩
 obtain ⟨he,q⟩:=h
 exists he
 exact ⟨e,rfl,he,q⟩
include T in theorem Bp:FnAt P w K mg base (fA P w) "are_rooms" 2 ["rooms"] nP:=by
 exists 0,T.qg,AY,BS,nP
 rename_i p
 refine ⟨_,(aM (ba (bu (aV (fz K rfl) (by rfl) T.a9 a8 (ax (pv 0) (ax (lW rfl T.tY yZ) aq))) (bu (bM (bq K rfl HR.units) (aV (dq K rfl) (by rfl) T.k6 iA (ax (pv 0) aq)) ae (nomark _)) (b9 (aV (lF K rfl rfl) (by rfl) T.wk vM (ax (cx (N:=(["room"]:List Str)) (nv:=1) (ix:=[]) rfl (kZ (by kernel_rfl)) (c_ K rfl (pv 0)) (fun _ _ _ _ _=>(bI (i:=0) (show ((["room"]:List Str)).Nodup by decide) rfl (Or.inl rfl))) (fun _ _ _ _ _=>cg) (fun _ _ _ _ _=>(bg (bS T) HR (by decide) rfl (ax (pv 0) (ax ae (ax (cp rfl T.iz) aq)))))) aq))))))),?_⟩
 obtain ⟨o,t,hp,q⟩:=h
 exists hp
 refine Ee (p:=fun _=>true) (f:=fun x=>match x with | .int i=> .bl (bK i 1 16)|_=> .non) (iD.of hp) (bh (by simp)) (fun x _ Q h=>h) (fun x hx _ Q h=>?_) ?_
 ·
  simp only [List.mem_cons,List.not_mem_nil,or_false] at hx
  rcases hx with rfl|rfl<;>(walk_at "wps";exact h)
 ·
  refine ⟨bh (by simp),fun l hl=>⟨[bK o 1 16,bK t 1 16],bU.of aa,?_⟩⟩
  have:=q _ (ao (o:= .lst [.bl (bK o 1 16),.bl (bK t 1 16)]) hl)
  have e:([bK o 1 16,bK t 1 16].all id)=decide ((1≤o∧o≤16)∧1≤t∧t≤16):=by
   rw [Bool.eq_iff_iff,decide_eq_true_eq,←lz,←lz];simp
  rw [e]
  exact this
include T in theorem sZ:cC P w K mg base (fA P w) bj "__init__" 3 ["self","ring","rooms","lag","first","longest"] (fF bj aD aB):=by
 exists 1,T.jJ,mD,tU,fF
 rename_i x r p g f l
 refine ⟨_,(aH (nA (PT.nox (uS (PW.pt (pw_and (Bi (bg (bS T) HR (by decide) rfl (ax (pv 1) (ax ae (ax (cp rfl T.qr) aq))))) (pw_and (Bi (bg (Bp T) HR (by decide) rfl (ax (pv 2) aq))) (pw_and1 (Bi (bg (bS T) HR (by decide) rfl (ax (pv 3) (ax ae (ax (cp rfl T.jO) aq))))))))))) (aM (Aq T.nL q_ rfl rfl rfl)) c9)
 (bT (aH (nA (PT.nox (uS (Bi (bg (Bo T) HR (by decide) rfl (ax (pv 4) (ax (pv 5) aq)))))) (aM (Aq T.nL q_ rfl rfl rfl)) c9)
 (bT (aH (PS.nox (bo (i:=6) mD.nd rfl (Or.inl rfl) (aV (GJ K rfl rfl) (by rfl) T.Fg JI (ax (cx (N:=(["room","lag"]:List Str)) (nv:=1) (ix:=[3]) rfl (kZ (by kernel_rfl)) (c_ K rfl (pv 2)) (fun _ _ _ _ _=>(bI (i:=0) (show ((["room","lag"]:List Str)).Nodup by decide) rfl (Or.inl rfl))) (fun _ _ _ _ _=>cg) (fun _ _ _ _ _=>(bg (KY T) HR (by decide) rfl (ax (pv 0) (ax (pv 1) aq))))) aq))))
 (bT (aH (nA (PT.nox (bR LQ (pv 1) (pv 6) (nomark _))) (aM (ou T.qw (qV T) T.rX HR (by decide) q_ rfl rfl rfl (ax (pv 6) aq))) c9)
 (bT (aH (PS.nox (aZ (pv 0) (pv 1) T.bY T.dg))
 (aH (PS.nox (aZ (pv 0) (pv 2) T.bY T.dY))
 (aH (PS.nox (aZ (pv 0) (pv 3) T.bY T.j0))
 (aH (PS.nox (aZ (pv 0) (pv 4) T.bY T.jT))
 (aM (PS.nox (aZ (pv 0) (pv 5) T.bY T.d6))))))))))))))),?_⟩
 obtain ⟨o,t,dx,hp,hx,q1,q2,q3⟩:=h
 generalize h_u1:aR _=u1
 walk_at "wps"
 by_cases c1:2≤r∧r≤64
 rotate_left
 ·rw [if_neg (by rw [qC c1];decide)];exact q1 (fun hg=>c1 hg.1) H (aW.refl _)
 rw [if_pos (BF c1)]
 refine ⟨o,t,hp,fun H1 S1=>?_⟩
 by_cases c2:(1≤o∧o≤16)∧1≤t∧t≤16
 rotate_left
 ·rw [if_neg c2];exact q1 (fun hg=>c2 hg.2.1) H1 S1
 rw [if_pos c2]
 by_cases c3:1≤g∧g≤32
 rotate_left
 ·rw [if_pos (qC c3)];exact q1 (fun hg=>c3 hg.2.2.1) H1 S1
 rw [if_neg (by rw [BF c3];decide)]
 rw [←h_u1,aR]
 generalize h_u2:aR _=u2
 walk_at "wps"
 by_cases c4:(2≤l∧l≤64)∧2≤f∧f≤l
 rotate_left
 ·rw [if_pos c4];exact q1 (fun hg=>c4 hg.2.2.2) H1 S1
 rw [if_neg (not_not_intro c4)]
 have hg:good r o t g f l:=⟨c1,c2,c3,c4⟩
 have hp1:=S1 _ _ hp
 have hx1:=S1 _ _ hx
 rw [←h_u2,aR]
 generalize h_u3:aR _=u3
 walk_at "wps"
 refine Ee (p:=fun _=>true) (f:=fun x=>match x with | .int i=> .int (lZ i g)|_=> .non) (iD.of hp1) (bh (by simp)) (fun x _ Q h=>h) (fun x hx _ Q h=>?_) ?_
 ·
  simp only [List.mem_cons,List.not_mem_nil,or_false] at hx
  rcases hx with rfl|rfl<;>(walk_at "wps";exact h)
 refine ⟨bh (by simp),fun l1 hl1=>⟨[lZ o g,lZ t g],bU.of aa,by simp,fun M hM hle=>?_⟩⟩
 have eM:M=pX o t g:=by
  have h1:=hle (lZ o g) (by simp)
  have h2:=hle (lZ t g) (by simp)
  simp only [List.mem_cons,List.not_mem_nil,or_false] at hM
  unfold pX
  split<;>omega
 subst eM
 have S2:aW H _:=fun b u e=>ao (o:= .lst ((([V.int o,V.int t]:List V).filter fun _=>true).map fun x=>match x with | .int i=> .int (lZ i g)|_=> .non)) hl1 b u (S1 b u e)
 have D3:=mC (o:= .lst ((([V.int o,V.int t]:List V).filter fun _=>true).map fun x=>match x with | .int i=> .int (lZ i g)|_=> .non)) hx1 hl1
 generalize upd H1 l1 (.lst ((([V.int o,V.int t]:List V).filter fun _=>true).map fun x=>match x with | .int i=> .int (lZ i g)|_=> .non))=H2 at*
 rw [←h_u3,aR]
 generalize h_u4:aR _=u4
 walk_at "wps"
 by_cases c5:r<pX o t g
 ·
  rw [if_pos c5]
  intro e he d hd
  refine ⟨_,rfl,?_⟩
  obtain ⟨s1,s2⟩:=dropxl (C:=aB) (l:=[("least",.int (pX o t g))]) S2 he hd
  exact q2 hg c5 _ d s1 s2
 rw [if_neg c5]
 rw [←h_u4,aR]
 exists D3
 refine q3 hg c5 _ ?_ aa
 exact fun b o hb hne=>by rw [ak hne];exact S2 _ _ hb
include T in theorem tq:cC P w K mg base (fA P w) ar "__init__" 1 ["self","most"] (fJ ar):=by
 exists 0,T.jM,sV,tX,fJ
 rename_i p m
 refine ⟨_,(aH (aZ (pv 0) (pv 1) T.oO T.oI)
 (aH (aZ (pv 0) (aV (GH rfl) (by rfl) T.JK RG (ax ae (ax (pv 1) aq))) T.oO T.l8)
 (aH (aZ (pv 0) (pv 1) T.oO T.oJ)
 (aM (aZ (pv 0) ae T.oO T.kK))))),?_⟩
 obtain ⟨dx,hp,q⟩:=h
 exists hp
 exact q
include T in theorem uV:cC P w K mg base (fA P w) ay "__init__" 1 ["self","first","longest"] (iH ay):=by
 exists 0,T.kQ,uG,vN,iH
 rename_i p f l
 refine ⟨_,(aH (aZ (pv 0) (pv 2) T.rZ T.l5)
 (aH (aZ (pv 0) eL T.rZ T.mY)
 (aH (aZ (pv 0) eL T.rZ T.mX)
 (aM (aZ (pv 0) (pv 1) T.rZ T.pT))))),?_⟩
 obtain ⟨dx,hp,q⟩:=h
 exists hp
 exact q
include T in theorem pR:cC P w K mg base (fA P w) af "many" 1 ["self"] (lI af ay ar):=by
 exists 0,T.nh,x_,y3,lI
 rename_i x
 refine ⟨_,(aM (ba (aV (dq K rfl) (by rfl) T.k6 iA (ax (bp (pv 0) T.bG T.cD rfl) aq)))),?_⟩
 obtain ⟨A,z,hS,q⟩:=h
 exists hS.hx,hS.ht
 exact q
include T in theorem wN:cC P w K mg base (fA P w) af "thing" 1 ["self","place"] (ko af ay ar):=by
 exists 0,T.ml,wF,xA,ko
 rename_i x p
 refine ⟨_,(aM (ba (bL (cV K rfl) (bp (pv 0) T.bG T.cD rfl) (pv 1) (fun _ _=>rfl)))),?_⟩
 obtain ⟨A,z,v,hS,hv,q⟩:=h
 exists hS.hx,hS.ht
 exact ⟨v,hv,q⟩
include T in theorem rW:cC P w K mg base (fA P w) af "__init__" 3 ["self","ring","first","longest","most"] (d7 af ay ar):=by
 exists 0,T.iy,rH,sF,d7
 rename_i x r f l m
 refine ⟨_,(aH (aZ (pv 0) (pv 1) T.bG T.m7)
 (aH (aZ (pv 0) (rT T.rZ (uV T) HR (by decide) rfl (ax (pv 2) (ax (pv 3) aq))) T.bG T.m6)
 (bT (aH (aZ (pv 0) (rT T.oO (tq T) HR (by decide) rfl (ax (pv 4) aq)) T.bG T.l6)
 (bT (aH (aZ (pv 0) (cw aq) T.bG T.cD)
 (aH (aZ (pv 0) ae T.bG T.jU)
 (aH (aZ (pv 0) ae T.bG T.lj)
 (aH (aZ (pv 0) ae T.bG T.m8)
 (aH (aZ (pv 0) eL T.bG T.l7)
 (aH (aZ (pv 0) sX T.bG T.cM)
 (bT (aH (aZ (pv 0) sW T.bG T.cL)
 (bT (aH (aZ (pv 0) sW T.bG T.cT)
 (bT (aM (aZ (pv 0) sW T.bG T.dM)))))))))))))))))),?_⟩
 obtain ⟨hf,dx,hx,q⟩:=h
 generalize h_u1:aR _=u1
 exists hx
 intro pw dw npw ndw new
 refine ⟨dw,rfl,?_⟩
 have nwx:x≠pw:=(fresh_ne npw).symm
 have ndx:x≠dw:=(fresh_ne ndw).symm
 exists ak nwx,ak ndx
 obtain ⟨H1,e1⟩: ∃H1,H1=upd (upd (upd (upd H x (.ins af dx (fu (.int r)))) dw (.own pw)) pw (.ins ay dw (iq (.int l) .non .non (.int f)))) x (.ins af dx (j4 (.int r) (.ref pw))):=⟨_,rfl⟩
 rw [←e1]
 rw [ak nwx.symm] at npw
 rw [ak ndx.symm] at ndw
 have hx1:H1 x=some (.ins af dx (j4 (.int r) (.ref pw))):=by rw [e1];exact aa
 have w1:H1 pw=some (.ins ay dw (iq (.int l) .non .non (.int f))):=by rw [e1,ak nwx.symm];exact aa
 have b1:cm x H H1:=fun b o e n=>by rw [e1,ak n,ak (av e npw),ak (av e ndw),ak n];exact e
 clear e1
 rw [←h_u1,aR]
 generalize h_u2:aR _=u2
 walk_at "wps"
 intro pm dm npm ndm nem
 refine ⟨dm,rfl,?_⟩
 have nmx:x≠pm:=av hx1 npm
 have ndx2:x≠dm:=av hx1 ndm
 exists ak nmx,ak ndx2,hx1
 obtain ⟨H2,e2⟩: ∃H2,H2=upd (upd (upd H1 dm (.own pm)) pm (.ins ar dm (bZ (.int m) (.int (MeterM.mn 2 m)) (.int m) (.int 0)))) x (.ins af dx (j3 (.int r) (.ref pw) (.ref pm))):=⟨_,rfl⟩
 rw [←e2]
 have D3:H2 x=some (.ins af dx (j3 (.int r) (.ref pw) (.ref pm))):=by rw [e2];exact aa
 have m2:H2 pm=some (.ins ar dm (bZ (.int m) (.int (MeterM.mn 2 m)) (.int m) (.int 0))):=by rw [e2,ak nmx.symm];exact aa
 have b2:cm x H1 H2:=fun b o e n=>by rw [e2,ak n,ak (av e npm),ak (av e ndm)];exact e
 have nwm:pw≠pm:=av w1 npm
 have w2:=b2 _ _ w1 nwx.symm
 clear e2
 rw [←h_u2,aR]
 generalize h_u3:aR _=u3
 walk_at "wps"
 intro pt npt
 have ntx:x≠pt:=av D3 npt
 exists ak ntx,D3
 obtain ⟨H3,e3⟩: ∃H3,H3=upd (upd H2 pt (.lst [])) x (.ins af dx (j2 (.int r) (.ref pw) (.ref pm) (.ref pt) (.int 0) (.int 0) (.int 1) .non (.bl false))):=⟨_,rfl⟩
 rw [←e3]
 have hx3:H3 x=some (.ins af dx (j2 (.int r) (.ref pw) (.ref pm) (.ref pt) (.int 0) (.int 0) (.int 1) .non (.bl false))):=by rw [e3];exact aa
 have t3:H3 pt=some (.lst []):=by rw [e3,ak ntx.symm];exact aa
 have b3:cm x H2 H3:=fun b o e n=>by rw [e3,ak n,ak (av e npt)];exact e
 clear e3
 rw [←h_u3,aR]
 generalize h_u4:aR _=u4
 walk_at "wps"
 intro pk npk
 have nkx:x≠pk:=av hx3 npk
 exists ak nkx,hx3
 obtain ⟨H4,e4⟩: ∃H4,H4=upd (upd H3 pk (.dK [])) x (.ins af dx (iv (.int r) (.ref pw) (.ref pm) (.ref pt) (.int 0) (.int 0) (.int 1) .non (.bl false) (.ref pk))):=⟨_,rfl⟩
 rw [←e4]
 have hx4:H4 x=some (.ins af dx (iv (.int r) (.ref pw) (.ref pm) (.ref pt) (.int 0) (.int 0) (.int 1) .non (.bl false) (.ref pk))):=by rw [e4];exact aa
 have k4:H4 pk=some (.dK []):=by rw [e4,ak nkx.symm];exact aa
 have b4:cm x H3 H4:=fun b o e n=>by rw [e4,ak n,ak (av e npk)];exact e
 clear e4
 rw [←h_u4,aR]
 generalize h_u5:aR _=u5
 walk_at "wps"
 intro pf npf
 have nfx:x≠pf:=av hx4 npf
 exists ak nfx,hx4
 obtain ⟨H5,e5⟩: ∃H5,H5=upd (upd H4 pf (.dK [])) x (.ins af dx (ir (.int r) (.ref pw) (.ref pm) (.ref pt) (.int 0) (.int 0) (.int 1) .non (.bl false) (.ref pk) (.ref pf))):=⟨_,rfl⟩
 rw [←e5]
 have hx5:H5 x=some (.ins af dx (ir (.int r) (.ref pw) (.ref pm) (.ref pt) (.int 0) (.int 0) (.int 1) .non (.bl false) (.ref pk) (.ref pf))):=by rw [e5];exact aa
 have f5:H5 pf=some (.dK []):=by rw [e5,ak nfx.symm];exact aa
 have b5:cm x H4 H5:=fun b o e n=>by rw [e5,ak n,ak (av e npf)];exact e
 clear e5
 rw [←h_u5,aR]
 walk_at "wps"
 intro pa npa
 have nax:x≠pa:=av hx5 npa
 exists ak nax,hx5
 have b6:cm x H5 (upd (upd H5 pa (.dK [])) x (.ins af dx (jG (.int r) (.ref pw) (.ref pm) (.ref pt) (.int 0) (.int 0) (.int 1) .non (.bl false) (.ref pk) (.ref pf) (.ref pa)))):=fun b o e n=>by rw [ak n,ak (av e npa)];exact e
 have k5:=b5 _ _ k4 nkx.symm
 have fr: ∀b,b∈[pw,pm,pt,pk,pf,pa]→H b=none:=fun b hb=>by
  simp only [List.mem_cons,List.not_mem_nil,or_false] at hb
  have B2:cm x H H2:=fun b o e n=>b2 _ _ (b1 b o e n) n
  have B3:cm x H H3:=fun b o e n=>b3 _ _ (B2 b o e n) n
  have B4:cm x H H4:=fun b o e n=>b4 _ _ (B3 b o e n) n
  have B5:cm x H H5:=fun b o e n=>b5 _ _ (B4 b o e n) n
  rcases hb with rfl|rfl|rfl|rfl|rfl|rfl
  ·exact npw
  ·exact cu b1 nmx npm
  ·exact cu B2 ntx npt
  ·exact cu B3 nkx npk
  ·exact cu B4 nfx npf
  ·exact cu B5 nax npa
 refine q ⟨dx,pw,pm,pt,pk,pf,pa,dw,dm⟩ _ (fun b o e n=>b6 _ _ (b5 _ _ (b4 _ _ (b3 _ _ (b2 _ _ (b1 b o e n) n) n) n) n) n) fr ⟨aa,b6 _ _ (b5 _ _ (b4 _ _ t3 ntx.symm) ntx.symm) ntx.symm,b6 _ _ k5 nkx.symm,b6 _ _ f5 nfx.symm,by rw [ak nax.symm];exact aa,⟨by show 2≤l;omega,by show 2≤f∧f≤l;omega,.inl ⟨rfl,rfl,b6 _ _ (b5 _ _ (b4 _ _ (b3 _ _ w2 nwx.symm) nwx.symm) nwx.symm) nwx.symm⟩⟩,⟨b6 _ _ (b5 _ _ (b4 _ _ (b3 _ _ m2 nmx.symm) nmx.symm) nmx.symm) nmx.symm,?_⟩,av k4 npf,av k5 npa,av f5 npa,nwx,nmx,nwm⟩
 show 1≤MeterM.mn 2 m∧MeterM.mn 2 m≤m∧(0:Int)≤0∧(0:Int)<MeterM.mn 2 m
 unfold MeterM.mn
 split<;>omega
include T in theorem s_:cC P w K mg base (fA P w) aI "__init__" 1 ["self","ring","room"] (fG aI):=by
 exists 0,T.jK,sT,tV,fG
 rename_i x r m
 refine ⟨_,(aH (aZ (pv 0) (pv 1) T.jW T.oF)
 (aH (aZ (pv 0) (pv 2) T.jW T.oE)
 (aH (aZ (pv 0) ae T.jW T.mI)
 (aH (aZ (pv 0) ae T.jW T.mH)
 (aM (aZ (pv 0) sW T.jW T.oG)))))),?_⟩
 obtain ⟨dx,hx,q⟩:=h
 exists hx
 intro p1 h1
 have n1:x≠p1:=(fresh_ne h1).symm
 exists ak n1
 have k1:H p1=none:=by rw [ak n1.symm] at h1;exact h1
 refine q p1 _ k1 ?_ ⟨aa,?_⟩
 ·
  intro b o hb hne
  rw [ak hne,ak (av hb k1),ak hne];exact hb
 ·rw [ak n1.symm,aa]
include T in theorem Br:cC P w K mg base (fA P w) aC "name" 1 ["self"] nU:=by
 exists 0,T.qk,A5,BX,nU
 rename_i x
 refine ⟨_,(aM (ba bc)),?_⟩
 walk_at "wps"
 exact h
include T in theorem wR:cC P w K mg base (fA P w) aj "name" 1 ["self"] ku:=by
 exists 0,T.mr,wI,xD,ku
 rename_i x
 refine ⟨_,(aM (ba bc)),?_⟩
 walk_at "wps"
 exact h
include T in theorem Bs:cC P w K mg base (fA P w) aE "name" 1 ["self"] nZ:=by
 exists 0,T.qm,A6,BY,nZ
 rename_i x
 refine ⟨_,(aM (ba bc)),?_⟩
 walk_at "wps"
 exact h
include T in theorem Bu:cC P w K mg base (fA P w) aF "name" 1 ["self"] n8:=by
 exists 0,T.qo,A7,BZ,n8
 rename_i x
 refine ⟨_,(aM (ba bc)),?_⟩
 walk_at "wps"
 exact h
include T in theorem wO:cC P w K mg base (fA P w) ah "name" 1 ["self"] kq:=by
 exists 0,T.mm,wG,xB,kq
 rename_i x
 refine ⟨_,(aM (ba bc)),?_⟩
 walk_at "wps"
 exact h
include T in theorem wM:cC P w K mg base (fA P w) ag "name" 1 ["self"] km:=by
 exists 0,T.mj,wD,xy,km
 rename_i x
 refine ⟨_,(aM (ba bc)),?_⟩
 walk_at "wps"
 exact h
include T in theorem wQ:cC P w K mg base (fA P w) ai "name" 1 ["self"] kr:=by
 exists 0,T.mq,wH,xC,kr
 rename_i x
 refine ⟨_,(aM (ba bc)),?_⟩
 walk_at "wps"
 exact h
theorem DU (T:Txt K mg ar ay af aI aO aY aT bj aQ aK aS aJ aw aD aB aL aG az lx aC aj aE aF ah ag ai):FnAt P w K mg base (fA P w) "is_text" 1 ["text"] nM:=by
 refine T.vH.fn Dv El (fun vs H Q E h=>?_) fun f cdv A outer s H vs Q E HR h=>?_
 ·unfold nM at h;split at h<;>first|rfl|exact h.elim
 ·
  unfold nM at h
  split at h
  ·
   rename_i z
   refine ⟨_,(aM (ba (bu (aV (fz K rfl) (by rfl) T.a9 a8 (ax (pv 0) (ax (lW rfl T.C3 Ei) aq))) (bu (lX nC nC ae (aV (dq K rfl) (by rfl) T.k6 iA (ax (pv 0) aq)) (cp rfl T.j7)) (b9 (aV (lF K rfl rfl) (by rfl) T.wk vM (ax (cx (N:=(["sign"]:List Str)) (nv:=1) (ix:=[]) rfl (kZ (by kernel_rfl)) (c_ K rfl (pv 0)) (fun _ _ _ _ _=>(bI (i:=0) (show ((["sign"]:List Str)).Nodup by decide) rfl (Or.inl rfl))) (fun _ _ _ _ _=>cg) (fun _ _ _ _ _=>(bM (Bn K rfl) (pv 0) (cp rfl T.tR) (xM rfl)))) aq))))))),?_⟩
   obtain ⟨hz,q⟩:=h
   walk_at "wps"
   refine ⟨bh hz,?_⟩
   by_cases c1:1≤(z.length:Int)
   rotate_left
   ·
    rw [if_neg c1]
    have e:fB z=false:=by unfold fB;rw [decide_eq_false (by omega)];rfl
    rw [←e];exact q H (aW.refl _)
   rw [if_pos c1]
   by_cases c2:(z.length:Int)≤60
   rotate_left
   ·
    rw [if_neg c2]
    have e:fB z=false:=by unfold fB;rw [decide_eq_false (show¬z.length≤60 by omega),Bool.and_false];rfl
    rw [←e];exact q H (aW.refl _)
   rw [if_pos c2]
   refine RE (p:=fun _=>true) (f:=fun x=> .bl (JQ x)) (by rw [sizeLine_eq];omega) (fun _ _ Q h=>h) (fun x hx _ Q hq=>?_) ?_
   ·
    obtain ⟨n,_,rfl⟩:=List.mem_map.mp hx
    walk_at "wps"
    exact hq
   have e4:(dB z).length=z.length:=by simp [dB,Str.length]
   have e1:((dB z).filter fun _=>true).map (fun x=>V.bl (JQ x))=((dB z).map JQ).map V.bl:=by
    rw [List.filter_eq_self.mpr (fun _ _=>rfl),List.map_map];rfl
   rw [e1]
   refine ⟨by rw [List.length_map,List.length_map,e4,sizeLine_eq];omega,fun p hp=>⟨(dB z).map JQ,bU.of aa,?_⟩⟩
   have e2:((dB z).map JQ).all id=fB z:=by
    unfold fB
    rw [decide_eq_true (show 1≤z.length by omega),decide_eq_true (show z.length≤60 by omega),List.all_map];rfl
   rw [e2]
   exact q _ (ao hp)
  ·
   refine ⟨_,(aM (ba (bu (aV (fz K rfl) (by rfl) T.a9 a8 (ax (pv 0) (ax (lW rfl T.C3 Ei) aq))) (bu (lX nC nC ae (aV (dq K rfl) (by rfl) T.k6 iA (ax (pv 0) aq)) (cp rfl T.j7)) (b9 (aV (lF K rfl rfl) (by rfl) T.wk vM (ax (cx (N:=(["sign"]:List Str)) (nv:=1) (ix:=[]) rfl (kZ (by kernel_rfl)) (c_ K rfl (pv 0)) (fun _ _ _ _ _=>(bI (i:=0) (show ((["sign"]:List Str)).Nodup by decide) rfl (Or.inl rfl))) (fun _ _ _ _ _=>cg) (fun _ _ _ _ _=>(bM (Bn K rfl) (pv 0) (cp rfl T.tR) (xM rfl)))) aq))))))),?_⟩
   walk_at "wps"
   rw [Kl]
   exact QO ⟨false,rfl,h⟩
  ·
   rename_i i
   refine ⟨_,(aM (ba (bu (aV (fz K rfl) (by rfl) T.a9 a8 (ax (pv 0) (ax (lW rfl T.C3 Ei) aq))) (bu (lX nC nC ae (aV (dq K rfl) (by rfl) T.k6 iA (ax (pv 0) aq)) (cp rfl T.j7)) (b9 (aV (lF K rfl rfl) (by rfl) T.wk vM (ax (cx (N:=(["sign"]:List Str)) (nv:=1) (ix:=[]) rfl (kZ (by kernel_rfl)) (c_ K rfl (pv 0)) (fun _ _ _ _ _=>(bI (i:=0) (show ((["sign"]:List Str)).Nodup by decide) rfl (Or.inl rfl))) (fun _ _ _ _ _=>cg) (fun _ _ _ _ _=>(bM (Bn K rfl) (pv 0) (cp rfl T.tR) (xM rfl)))) aq))))))),?_⟩
   walk_at "wps"
   exact h
  ·exact h.elim
include T in theorem nG:cC P w K mg base (fA P w) aO "__init__" 5 ["self","side","terms"] (iL aO aI af ay ar aC aj aE aF ah ag ai bj):=by
 exists 0,T.kU,uJ,vR,iL
 rename_i x side tm
 refine ⟨_,(aH (aZ (pv 0) (pv 1) T.cq T.pU)
 (aH (aZ (pv 0) (bp (pv 2) T.bY T.dg rfl) T.cq T.pV)
 (aH (aZ (pv 0) (rT T.jW (s_ T) HR (by decide) rfl (ax (bp (pv 2) T.bY T.dg rfl) (ax (bL (cV K rfl) (bp (pv 2) T.bY T.dY rfl) (pv 1) (fun _ _=>rfl)) aq))) T.cq T.ll)
 (bT (aH (aZ (pv 0) (rT T.bG (rW T) HR (by decide) rfl (ax (bp (pv 2) T.bY T.dg rfl) (ax (bp (pv 2) T.bY T.jT rfl) (ax (bp (pv 2) T.bY T.d6 rfl) (ax (bL (cV K rfl) (bp (pv 2) T.bY T.dY rfl) (aN lY ae (pv 1)) (fun _ _=>rfl)) aq))))) T.cq T.b_)
 (bT (aH (aZ (pv 0) (Qe T.BA T.By rfl) T.cq T.lp)
 (aH (aZ (pv 0) sX T.cq T.cQ)
 (aM (aZ (pv 0) (cw aq) T.cq T.gF)))))))))),?_⟩
 obtain ⟨dx,r,o,t,g,f,l,hx,⟨dt,p,htm,hp⟩,hg,hs,q⟩:=h
 have n1:tm≠x:=jY htm hx (by simp [cX])
 have n2:p≠x:=jY hp hx (by simp)
 obtain ⟨g1,⟨g2,g3⟩,g4,g5,g6⟩:=hg
 have own:sH [V.int o,V.int t] side=some (.int (if side=0 then o else t))∧sH [V.int o,V.int t] (1 - side)=some (.int (if side=0 then t else o)):=by
  rcases hs with rfl|rfl
  ·exact ⟨by rw [if_pos rfl];exact C6,by rw [if_pos rfl];exact C5⟩
  ·exact ⟨by rw [if_neg (by decide)];exact C5,by rw [if_neg (by decide)];exact C6⟩
 have ob:(1≤(if side=0 then o else t)∧(if side=0 then o else t)≤16)∧1≤(if side=0 then t else o):=by split<;>omega
 generalize (if side=0 then o else t)=mo at*
 generalize (if side=0 then t else o)=mt at*
 generalize h_u1:aR _=u1
 exists hx,htm,ak n1,ak n2,hp,own.1
 intro tk dk ntk ndk nek
 refine ⟨dk,rfl,fun kd H1 nkd b1 t1=>?_⟩
 have xtk:x≠tk:=fresh_ne ntk |>.symm
 have xdk:x≠dk:=fresh_ne ndk |>.symm
 have x1:H1 x=some (.ins aO dx (nI (.int side) (.int r))):=b1 _ _ (by rw [ak xtk,ak xdk,aa]) xtk
 have B1: ∀b u,H b=some u→b≠x→H1 b=some u:=fun b u e n=>by
  have e1:upd H x (.ins aO dx (nI (.int side) (.int r))) b=some u:=by rw [ak n];exact e
  exact b1 _ _ (by rw [ak (av e1 ntk),ak (av e1 ndk)];exact e1) (av e1 ntk)
 have ftk:H tk=none:=by rw [ak xtk.symm] at ntk;exact ntk
 have fkd:H kd=none∧kd≠x:=by
  have k1:kd≠tk:=fresh_ne nkd
  rw [ak k1] at nkd
  have k2:kd≠dk:=fresh_ne nkd
  rw [ak k2] at nkd
  have k3:kd≠x:=fresh_ne nkd
  rw [ak k3] at nkd
  exact ⟨nkd,k3⟩
 clear b1 nkd
 have htm1:=B1 _ _ htm n1
 have hp1:=B1 _ _ hp n2
 exists x1
 have X1:cm x H (upd H1 x (.ins aO dx (cH (.int side) (.int r) (.ref tk)))):=fun b u e n=>by rw [ak n];exact B1 b u e n
 have x2:upd H1 x (.ins aO dx (cH (.int side) (.int r) (.ref tk))) x=some (.ins aO dx (cH (.int side) (.int r) (.ref tk))):=aa
 have t2:pq aI (upd H1 x (.ins aO dx (cH (.int side) (.int r) (.ref tk)))) tk dk kd ⟨r,mo,0,0,[]⟩:=⟨by rw [ak xtk.symm];exact t1.hx,by rw [ak fkd.2];exact t1.hD⟩
 have htm2:upd H1 x (.ins aO dx (cH (.int side) (.int r) (.ref tk))) tm=some (.ins bj dt (cX (.int r) (.ref p) (.int g) (.int f) (.int l))):=by rw [ak n1];exact htm1
 have hp2:upd H1 x (.ins aO dx (cH (.int side) (.int r) (.ref tk))) p=some (.tup [.int o,.int t]):=by rw [ak n2];exact hp1
 generalize upd H1 x (.ins aO dx (cH (.int side) (.int r) (.ref tk)))=H2 at*
 clear x1 t1 B1 htm1 hp1
 rw [←h_u1,aR]
 generalize h_u2:aR _=u2
 exists htm2,hp2,own.2
 intro sd ds nsd nds nes
 refine ⟨⟨by omega,by omega,by omega⟩,ds,rfl,fun S H3 b3 fr3 s3=>?_⟩
 have xsd:x≠sd:=av x2 nsd
 have B3: ∀b u,H2 b=some u→H3 b=some u:=fun b u e=>b3 _ _ (by rw [ak (av e nsd),ak (av e nds)];exact e) (av e nsd)
 have fr2: ∀b,b∈[S.pw,S.pm,S.pt,S.pk,S.pf,S.pa]→H2 b=none∧b≠sd:=fun b hb=>by
  have k0:=fr3 b hb
  have k1:b≠sd:=fresh_ne k0
  rw [ak k1] at k0
  have k2:b≠ds:=fresh_ne k0
  rw [ak k2] at k0
  exact ⟨k0,k1⟩
 clear b3 fr3
 have x3:=B3 _ _ x2
 have t3:pq aI H3 tk dk kd ⟨r,mo,0,0,[]⟩:=⟨B3 _ _ t2.hx,B3 _ _ t2.hD⟩
 exists x3
 have X3:cm x H (upd H3 x (.ins aO dx (cv (.int side) (.int r) (.ref tk) (.ref sd)))):=fun b u e n=>by rw [ak n];exact B3 _ _ (X1 b u e n)
 have x4:upd H3 x (.ins aO dx (cv (.int side) (.int r) (.ref tk) (.ref sd))) x=some (.ins aO dx (cv (.int side) (.int r) (.ref tk) (.ref sd))):=aa
 have xS: ∀b,b∈[S.pw,S.pm,S.pt,S.pk,S.pf,S.pa]→b≠x:=fun b hb e=>by have:=(fr2 b hb).1;rw [e,x2] at this;cases this
 have k4:Kp [x] H3 (upd H3 x (.ins aO dx (cv (.int side) (.int r) (.ref tk) (.ref sd)))):=Kp.one
 have s4:cP af ay ar (upd H3 x (.ins aO dx (cv (.int side) (.int r) (.ref tk) (.ref sd)))) sd S _:=s3.kp k4 (fun b hb m=>by
  rw [List.mem_singleton] at m
  rcases List.mem_cons.mp hb with e|hb
  ·exact xsd (m.symm.trans e)
  ·exact xS b hb m) (fun t l e m=>by rw [List.mem_singleton.mp m,x3] at e;cases e)
 have t4:pq aI (upd H3 x (.ins aO dx (cv (.int side) (.int r) (.ref tk) (.ref sd)))) tk dk kd ⟨r,mo,0,0,[]⟩:=⟨by rw [ak xtk.symm];exact t3.hx,by rw [ak fkd.2];exact t3.hD⟩
 generalize upd H3 x (.ins aO dx (cv (.int side) (.int r) (.ref tk) (.ref sd)))=H4 at*
 rw [←h_u2,aR]
 walk_at "wps"
 intro st dst nst ndst nest
 have S5:aW H4 _:=lK (C:=aC) (fs:=[]) nst ndst
 have st5:jQ (tbl aC aj aE aF ah ag ai) (upd (upd H4 dst (.own st)) st (.ins aC dst [])) st "shut" :=⟨_,_,aa,.head _⟩
 have x5:=S5 _ _ x4
 have s5:=s4.same S5
 have t5:=t4.same S5
 have X5:cm x H _:=fun b u e n=>S5 _ _ (X3 b u e n)
 generalize upd (upd H4 dst (.own st)) st (.ins aC dst [])=H5 at*
 exists x5
 intro pe npe
 have xpe:x≠pe:=(fresh_ne npe).symm
 exists ak xpe
 have npe5:H5 pe=none:=by rw [ak xpe.symm] at npe;exact npe
 have nod:(foot x ⟨dx,tk,dk,kd,sd,S,st,pe⟩).Nodup:=by
  have n_tk:tk≠x:=xtk.symm
  have in2: ∀{b:Addr} {u:HO},H2 b=some u→b ∉ [S.pw,S.pm,S.pt,S.pk,S.pf,S.pa]∧b≠sd:=fun {b u} e=>⟨(fun m=>by have:=(fr2 b m).1;rw [e] at this;cases this),av e nsd⟩
  have pe_ne: ∀{b:Addr} {u:HO},H5 b=some u→b≠pe:=fun e=>av e npe5
  obtain ⟨em,_⟩:=s5.ms
  obtain ⟨_,_,ew⟩:=s5.ws.ins
  have kx:=in2 x2
  have kt:=in2 t2.hx
  have kk:=in2 t2.hD
  have sdS:sd ∉ [S.pw,S.pm,S.pt,S.pk,S.pf,S.pa]:=fun m=>(fr2 sd m).2 rfl
  have m1:S.pm≠S.pt:=jY em s5.ht (by simp)
  have m2:S.pm≠S.pk:=jY em s5.hk (by simp)
  have m3:S.pm≠S.pf:=jY em s5.hf (by simp)
  have m4:S.pm≠S.pa:=jY em s5.ha (by simp)
  have w1:S.pw≠S.pt:=jY ew s5.ht (by simp)
  have w2:S.pw≠S.pk:=jY ew s5.hk (by simp)
  have w3:S.pw≠S.pf:=jY ew s5.hf (by simp)
  have w4:S.pw≠S.pa:=jY ew s5.ha (by simp)
  have v1:S.pt≠S.pk:=jY s5.ht s5.hk (by simp)
  have v2:S.pt≠S.pf:=jY s5.ht s5.hf (by simp)
  have v3:S.pt≠S.pa:=jY s5.ht s5.ha (by simp)
  simp only [List.mem_cons,List.not_mem_nil,or_false,not_or] at kx kt kk sdS
  simp only [foot,List.nodup_cons,List.mem_cons,List.not_mem_nil,or_false,not_or,List.nodup_nil,and_true,not_false_eq_true]
  have tkd:tk≠kd:=t2.n1.symm
  exact ⟨⟨xtk,fkd.2.symm,xsd,kx.1.1,kx.1.2.1,kx.1.2.2.1,kx.1.2.2.2.1,kx.1.2.2.2.2.1,kx.1.2.2.2.2.2,xpe⟩,
   ⟨tkd,kt.2,kt.1.1,kt.1.2.1,kt.1.2.2.1,kt.1.2.2.2.1,kt.1.2.2.2.2.1,kt.1.2.2.2.2.2,pe_ne t5.hx⟩,
   ⟨kk.2,kk.1.1,kk.1.2.1,kk.1.2.2.1,kk.1.2.2.2.1,kk.1.2.2.2.2.1,kk.1.2.2.2.2.2,pe_ne t5.hD⟩,
   ⟨sdS.1,sdS.2.1,sdS.2.2.1,sdS.2.2.2.1,sdS.2.2.2.2.1,sdS.2.2.2.2.2,pe_ne s5.hx⟩,
   ⟨s5.wm,w1,w2,w3,w4,pe_ne ew⟩,⟨m1,m2,m3,m4,pe_ne em⟩,⟨v1,v2,v3,pe_ne s5.ht⟩,⟨s5.kf,s5.ka,pe_ne s5.hk⟩,⟨s5.fa,pe_ne s5.hf⟩,pe_ne s5.ha⟩
 have kF:Kp [x] H5 (upd (upd (upd H5 x (.ins aO dx (qD (.int side) (.int r) (.ref tk) (.ref sd) (.ref st) (.bl false)))) pe (.lst [])) x (.ins aO dx (lr (.int side) (.int r) (.ref tk) (.ref sd) (.ref st) (.bl false) (.ref pe)))):=fun b u e n=>by
  rw [List.mem_singleton] at n
  rw [ak n,ak (av e npe5),ak n];exact e
 refine q ⟨dx,tk,dk,kd,sd,S,st,pe⟩ _ (fun b u e n=>kF b u (X5 b u e n) (fun m=>n (List.mem_singleton.mp m))) (fun b hb=>?_) ⟨aa,⟨kF _ _ t5.hx (fun m=>xtk (List.mem_singleton.mp m).symm),kF _ _ t5.hD (fun m=>fkd.2 (List.mem_singleton.mp m))⟩,s5.kp kF (fun b hb m=>?_) (fun t l e m=>?_),?_,?_,nod⟩
 ·
  simp only [foot,List.tail_cons,List.mem_cons,List.not_mem_nil,or_false] at hb
  rcases hb with e|e|e|e|e|e|e|e|e|e
  ·rw [e];exact ftk
  ·rw [e];exact fkd.1
  ·rw [e];exact cu X1 xsd nsd
  ·rw [e];exact cu X1 (xS _ (by simp)).symm (fr2 _ (by simp)).1
  ·rw [e];exact cu X1 (xS _ (by simp)).symm (fr2 _ (by simp)).1
  ·rw [e];exact cu X1 (xS _ (by simp)).symm (fr2 _ (by simp)).1
  ·rw [e];exact cu X1 (xS _ (by simp)).symm (fr2 _ (by simp)).1
  ·rw [e];exact cu X1 (xS _ (by simp)).symm (fr2 _ (by simp)).1
  ·rw [e];exact cu X1 (xS _ (by simp)).symm (fr2 _ (by simp)).1
  ·rw [e];exact cu X5 xpe npe5
 ·
  rw [List.mem_singleton] at m
  rcases List.mem_cons.mp hb with e|hb
  ·exact xsd (m.symm.trans e)
  ·exact xS b hb m
 ·rw [List.mem_singleton.mp m,x5] at e;cases e
 ·
  obtain ⟨C,d,e,hm⟩:=st5
  exact ⟨C,d,kF _ _ e (fun m=>by have m':st=x:=List.mem_singleton.mp m;rw [m',x5] at e;injection e with e;injection e with _ _ e;simp [cv] at e),hm⟩
 ·rw [ak xpe.symm,aa];rfl
theorem G4 {aC aj aE aF ah ag ai:Addr} {C:Addr} {nm:Str} (h:(C,nm)∈tbl aC aj aE aF ah ag ai):(C=aC∧nm = "shut")∨(C=aj∧nm = "calling")∨(C=aE∧nm = "open")∨(C=aF∧nm = "left")∨(C=ah∧nm = "leaving")∨(C=ag∧nm = "waiting")∨(C=ai∧nm = "closing"):=by
 simpa [tbl] using h
theorem Gh (T:Txt K mg ar ay af aI aO aY aT bj aQ aK aS aJ aw aD aB aL aG az lx aC aj aE aF ah ag ai):RK P w K mg base (fA P w) "name" 1 (uw aC aj aE aF ah ag ai):=by
 intro x H Q E h
 unfold uw at h
 split at h
 rotate_left
 ·exact h.elim
 rename_i x e
 obtain ⟨nm,hst,q⟩:=h
 have hst0:=hst
 obtain ⟨C,dx,hx,hm⟩:=hst
 injection e with e1 _
 rcases G4 hm with ⟨rfl,rfl⟩|⟨rfl,rfl⟩|⟨rfl,rfl⟩|⟨rfl,rfl⟩|⟨rfl,rfl⟩|⟨rfl,rfl⟩|⟨rfl,rfl⟩
 ·exact ⟨x,_,dx,_,_,_,_,e1,hx,rfl,by decide,T.BA.cl,Br T,q⟩
 ·exact ⟨x,_,dx,_,_,_,_,e1,hx,rfl,by decide,T.u_.cl,wR T,q⟩
 ·exact ⟨x,_,dx,_,_,_,_,e1,hx,rfl,by decide,T.D0.cl,Bs T,q⟩
 ·exact ⟨x,_,dx,_,_,_,_,e1,hx,rfl,by decide,T.D1.cl,Bu T,q⟩
 ·exact ⟨x,_,dx,_,_,_,_,e1,hx,rfl,by decide,T.u0.cl,wO T,q⟩
 ·exact ⟨x,_,dx,_,_,_,_,e1,hx,rfl,by decide,T.uZ.cl,wM T,q⟩
 ·exact ⟨x,_,dx,_,_,_,_,e1,hx,rfl,by decide,T.u9.cl,wQ T,q⟩
include T in theorem Bv:cC P w K mg base (fA P w) aO "name" 2 ["self"] (n9 aO aI af ay ar aC aj aE aF ah ag ai):=by
 exists 0,T.qp,A8,B7,n9
 rename_i x
 refine ⟨_,(aM (ba (Qc (bp (pv 0) T.cq T.lp rfl) (Gh T) HR (by decide)))),?_⟩
 obtain ⟨A,z,hH,q⟩:=h
 exists hH.hx
 exact ⟨_,hH.st,q⟩
include T in theorem zA:cC P w K mg base (fA P w) aO "quiet" 2 ["self"] (mS aO aI af ay ar aC aj aE aF ah ag ai):=by
 exists 0,T.oY,zv,z8,mS
 rename_i x
 refine ⟨_,(aM (ba (bu (lX (bq K rfl HR.units) (bq K rfl HR.units) (bp (bp (pv 0) T.cq T.b_ rfl) T.bG T.jU rfl) (bp (bp (pv 0) T.cq T.b_ rfl) T.bG T.lj rfl) (ow (bp (pv 0) T.cq T.b_ rfl) T.bG (pR T) HR (by decide))) (b9 (uT (bp (pv 0) T.cq T.cQ rfl)))))),?_⟩
 obtain ⟨A,z,hH,q⟩:=h
 exists hH.hx,hH.sd.hx
 by_cases c1:z.sd.b=z.sd.t
 ·
  rw [if_pos c1]
  refine ⟨_,_,hH.sd,?_⟩
  rw [decide_eq_true c1,Bool.true_and] at q
  by_cases c2:z.sd.t=(z.sd.T.length:Int)
  ·rw [if_pos c2];rw [decide_eq_true c2,Bool.true_and] at q;exact q
  ·rw [if_neg c2];rw [decide_eq_false c2,Bool.false_and] at q;exact q
 ·rw [if_neg c1];rw [decide_eq_false c1,Bool.false_and,Bool.false_and] at q;exact q
include T in theorem kX:cC P w K mg base (fA P w) aw "__init__" 1 ["self","at"] (dA aw):=by
 exists 0,T.fh,qU,q0,dA
 rename_i e l
 refine ⟨_,(aM (ye T.nr T.dX (pv 0) (pv 1))),?_⟩
 obtain ⟨he,q⟩:=h
 exists he
 exact ⟨e,rfl,he,q⟩
include T in theorem DW:FnAt P w K mg base (fA P w) "is_copy" 2 ["copy","lag"] rq:=by
 exists 0,T.vK,Dy,Eo,rq
 rename_i c lag
 refine ⟨_,(aM (ba (bu (aV (fw K rfl) (by rfl) T.a9 a8 (ax (pv 0) (ax (lW rfl T.tY yZ) aq))) (bu (bM (bq K rfl HR.units) (aV (lE K rfl) (by rfl) T.k6 iA (ax (pv 0) aq)) ae (nomark _)) (bu (bg (bS T) HR (by decide) rfl (ax (bL (Iw K rfl) (pv 0) ae (fun _ _=>rfl)) (ax ae (ax (pv 1) aq)))) (bu (bg (bS T) HR (by decide) rfl (ax (bL (Iw K rfl) (pv 0) ae (fun _ _=>rfl)) (ax ae (ax (cp rfl T.oZ) aq)))) (b9 (bg (bS T) HR (by decide) rfl (ax (bL (Iw K rfl) (pv 0) ae (fun _ _=>rfl)) (ax ae (ax (cp rfl T.sE) aq))))))))))),?_⟩
 obtain ⟨d,p,r,hc,q⟩:=h
 exists hc
 refine E1 hc ⟨true,rfl,?_⟩
 rw [if_pos rfl]
 refine ⟨_,.inr (iD.of hc),?_⟩
 rw [if_pos (by simp)]
 refine xO (iD.of hc) rfl ?_
 unfold mv at q
 walk_at "wps"
 by_cases c1:bK d 1 lag=true
 rotate_left
 ·
  rw [if_neg c1]
  rw [Bool.not_eq_true] at c1
  rw [c1,Bool.false_and,Bool.false_and] at q
  exact q
 rw [if_pos c1]
 rw [c1,Bool.true_and] at q
 refine xO (iD.of hc) rfl ?_
 walk_at "wps"
 by_cases c2:bK p 0 66=true
 rotate_left
 ·
  rw [if_neg c2]
  rw [Bool.not_eq_true] at c2
  rw [c2,Bool.false_and] at q
  exact q
 rw [if_pos c2]
 rw [c2,Bool.true_and] at q
 exact xO (iD.of hc) rfl q
noncomputable def cpV (H:Hp) (lag:Int) (v:V):V:=match v with
 | .ref c=>match H c with
  |some (.tup [.int d,.int p,.int r])=> .bl (mv d p r lag)
  |_=> .non
 |_=> .non
theorem JB {H:Hp} {lag:Int} {c:Addr} {d p r:Int} (h:qv H c d p r):cpV H lag (.ref c) = .bl (mv d p r lag):=by
 have h':H c=some (.tup [.int d,.int p,.int r]):=h
 simp only [cpV,h']
theorem Lu {H:Hp} {lag:Int} {cs:List Addr} {ds:List Cp} (h:Paired (fun c (d:Cp)=>qv H c d.1 d.2.1 d.2.2) cs ds):(cs.map V.ref).map (cpV H lag)=(ds.map fun d=>mv d.1 d.2.1 d.2.2 lag).map V.bl:=by
 induction h with
 |nil=>rfl
 |cons r _ ih=>
  rw [List.map_cons,List.map_cons,List.map_cons,List.map_cons,ih]
  have e:=JB (lag:=lag) r
  rw [e]
include T in theorem DV:FnAt P w K mg base (fA P w) "is_deed" 3 ["deed","lag"] rp:=by
 exists 0,T.vJ,Dx,En,rp
 rename_i x lag
 refine ⟨_,(aM (ba (bu (bM nC (aV (lE K rfl) (by rfl) T.k6 iA (ax (pv 0) aq)) (cp rfl T.nk) (nomark _)) (b9 (aV (lF K rfl rfl) (by rfl) T.wk vM (ax (cx (N:=(["copy","lag"]:List Str)) (nv:=1) (ix:=[1]) rfl (kZ (by kernel_rfl)) (c_ K rfl (pv 0)) (fun _ _ _ _ _=>(bI (i:=0) (show ((["copy","lag"]:List Str)).Nodup by decide) rfl (Or.inl rfl))) (fun _ _ _ _ _=>cg) (fun _ _ _ _ _=>(bg (DW T) HR (by decide) rfl (ax (pv 0) (ax (pv 1) aq))))) aq)))))),?_⟩
 obtain ⟨ds,⟨cs,h1,h2,h3⟩,q⟩:=h
 have ln:=bz h2
 walk_at "wps"
 refine ⟨_,.inl (bU.of h1),?_⟩
 rw [List.length_map,ln]
 unfold iw at q
 by_cases c:ds.length≤3
 rotate_left
 ·
  rw [if_neg (by omega)]
  rw [decide_eq_false c,Bool.false_and] at q
  exact q _ (aW.refl _)
 rw [if_pos (by omega)]
 rw [decide_eq_true c,Bool.true_and] at q
 refine Fe (p:=fun _=>true) (f:=cpV H lag) (bU.of h1) (bh (by rw [List.length_map,ln];exact h3)) (fun x _ Q h=>h) (fun y hy _ Q h=>?_) ?_
 ·
  obtain ⟨cc,hcc,rfl⟩:=List.mem_map.mp hy
  obtain ⟨i,hi⟩:=List.getElem?_of_mem hcc
  obtain ⟨d,_,hd⟩:=oz h2 hi
  rw [JB hd] at h
  walk_at "wps"
  exact ⟨_,_,_,hd,h⟩
 rw [List.filter_eq_self.mpr (by simp),Lu h2]
 refine ⟨bh (by rw [List.length_map,List.length_map];exact h3),fun l hl=>⟨_,bU.of aa,?_⟩⟩
 have e:(ds.map fun d=>mv d.1 d.2.1 d.2.2 lag).all id=ds.all fun d=>mv d.1 d.2.1 d.2.2 lag:=by rw [List.all_map];rfl
 rw [e]
 exact q _ (ao hl)
include T in theorem zx:FnAt P w K mg base (fA P w) "check_road" 4 ["deeds","lag"] (mM aw):=by
 exists 1,T.oR,mT,zY,mM
 rename_i x lag
 refine ⟨_,(aH (nA (PT.nox (PW.pt (pw_or (uS (Bi (bg (bS T) HR (by decide) rfl (ax (pv 1) (ax ae (ax (cp rfl T.jP) aq)))))) (pw_or1 (bR HY (aV (lE K rfl) (by rfl) T.k6 iA (ax (pv 0) aq)) (cp rfl T.o3) (nomark _)))))) (aM (ou T.nr (kX T) T.oM HR (by decide) q_ rfl rfl rfl (ax eL aq))) c9)
 (aM (PS.fly q_ G_ (DM (yh rfl rfl) rfl (EJ rfl T.mL (ax (pv 0) aq)) (Bl K (n:=2) rfl rfl (vY (bI (i:=2) mT.nd rfl (Or.inl rfl)) (vY (bI (i:=3) mT.nd rfl (Or.inl rfl)) Bk))) (aM (nA (PT.nox (uS (Bi (bg (DV T) HR (by decide) rfl (ax (pv 3) (ax (pv 1) aq)))))) (aM (ou T.nr (kX T) T.oM HR (by decide) G9 rfl rfl rfl (ax (pv 2) aq))) c9)))))),?_⟩
 obtain ⟨dss,hR,q1,q2,q3⟩:=h
 have hR':=hR
 obtain ⟨xs,h1,h2,h3⟩:=hR'
 have ln:=bz h2
 walk_at "wps"
 by_cases c1:bK lag 1 60=false
 ·
  rw [if_pos c1]
  intro e he d hd
  obtain ⟨s1,s2⟩:=dropx (C:=aw) (f:="at") (v:= .non) (aW.refl H) he hd
  exact ⟨_,rfl,q2 (.inl c1) _ d s1 s2⟩
 rw [if_neg c1]
 rw [Bool.not_eq_false] at c1
 refine ⟨_,.inl (bU.of h1),?_⟩
 rw [List.length_map,ln]
 by_cases c2:60<dss.length
 ·
  rw [if_pos (by omega)]
  intro e he d hd
  obtain ⟨s1,s2⟩:=dropx (C:=aw) (f:="at") (v:= .non) (aW.refl H) he hd
  exact ⟨_,rfl,q2 (.inr c2) _ d s1 s2⟩
 rw [if_neg (by omega)]
 refine E7 h1 (fun i σ H'=>aW H H'∧(∀j<i,∀ds,dss[j]?=some ds→iw lag ds=true)∧∃v2 v3,σ= [some (V.ref x),some (V.int lag),v2,v3]) ⟨aW.refl _,(fun j hj=>absurd hj (by omega)),none,none,rfl⟩ (fun i σ H' _ h=>h.1 _ _ h1) (fun i y pt σ H' hy h hpt=>?_) (fun σ H' h=>?_)
 ·
  obtain ⟨sm,ok,v2,v3,rfl⟩:=h
  rw [List.getElem?_map] at hy
  obtain ⟨y,ey,rfl⟩:=Option.map_eq_some_iff.mp hy
  obtain ⟨ds,eds,hD⟩:=oz h2 ey
  exists aa
  refine ⟨ds,(hD.same sm).same (ao hpt),fun H2 s2=>?_⟩
  have sm2:=(sm.trans (ao hpt)).trans s2
  by_cases c3:iw lag ds=false
  ·
   rw [if_pos c3]
   intro e he d hd
   obtain ⟨s3,s4⟩:=dropx (C:=aw) (f:="at") (v:= .int i) sm2 he hd
   exact ⟨_,rfl,q3 c1 (by omega) i ds eds c3 ok _ d s3 s4⟩
  rw [if_neg c3]
  rw [Bool.not_eq_false] at c3
  refine ⟨sm2,fun j hj ds' hds'=>?_,_,_,rfl⟩
  by_cases z:j=i
  ·
   subst z
   rw [eds] at hds'
   cases hds'
   exact c3
  ·exact ok j (by omega) ds' hds'
 ·
  obtain ⟨sm,ok,v2,v3,rfl⟩:=h
  rw [List.length_map,ln] at ok
  refine q1 c1 (by omega) (fun ds hd=>?_) _ sm
  obtain ⟨i,hi⟩:=List.getElem?_of_mem hd
  exact ok i (List.getElem?_eq_some_iff.mp hi).1 ds hi
theorem none_of {H H':Hp} {l:Addr} (sm:aW H H') (nl:H' l=none):H l=none:=by
 cases e:H l with
 |none=>rfl
 |some o=>rw [sm _ _ e] at nl;cases nl
include T in theorem uU:FnAt P w K mg base (fA P w) "copied" 1 ["deeds"] t_:=by
 exists 0,T.yX,Fx,GO,t_
 rename_i x
 refine ⟨_,(aM (ba (cx (N:=(["deed"]:List Str)) (nv:=1) (ix:=[]) rfl (kZ (by kernel_rfl)) (c_ K rfl (pv 0)) (fun _ _ _ _ _=>(bI (i:=0) (show ((["deed"]:List Str)).Nodup by decide) rfl (Or.inl rfl))) (fun _ _ _ _ _=>cg) (fun _ _ _ _ _=>(eO (fj K rfl) (by rfl) T.o5 o4 (ax (pv 0) aq)))))),?_⟩
 obtain ⟨dss,⟨xs,h1,h2,h3⟩,q⟩:=h
 have ln:=bz h2
 walk_at "wps"
 refine tQ (bU.of h1) (bh (by rw [List.length_map,ln];exact h3)) (fun i ys σ H'=>aW H H'∧∃zs:List Addr,ys=zs.map V.ref∧Paired (fun x ds=>H x=none∧bP H' x ds) zs (dss.take i)∧∃v,σ= [v]) ⟨aW.refl _,[],rfl,.nil,none,rfl⟩ (fun i ys σ H' hh=>?_) (fun i ys σ H' hh=>bU.of (hh.1 _ _ h1)) (fun i y ys σ H' hy hh=>?_) (fun ys σ H' hh=>?_)
 ·
  obtain ⟨_,zs,e,p,_⟩:=hh
  rw [e,List.length_map,bz p]
  exact List.length_take_le _ _
 ·
  obtain ⟨sm,zs,e,p,v,eσ⟩:=hh
  subst eσ e
  rw [List.getElem?_map] at hy
  obtain ⟨y,ey,rfl⟩:=Option.map_eq_some_iff.mp hy
  obtain ⟨ds,eds,hD⟩:=oz h2 ey
  obtain ⟨cs,d1,d2,d3⟩:=hD.same sm
  walk_at "wps"
  refine ⟨_,.inl (bU.of d1),fun l nl=>⟨sm.trans (ao nl),zs++ [l],by simp,?_⟩⟩
  rw [List.take_add_one,eds]
  refine ⟨?_,_,rfl⟩
  exact fq (R:=fun x ds=>H x=none∧bP (upd H' l (.lst (cs.map V.ref))) x ds) (y:=ds) (aP p fun a b q=>⟨q.1,q.2.same (ao nl)⟩) ⟨none_of sm nl,cs,aa,aP d2 (fun c d q=>mC q nl),d3⟩
 ·
  obtain ⟨sm,zs,e,p,v,eσ⟩:=hh
  subst eσ e
  rw [List.length_map,ln,List.take_length] at p
  exact ⟨bh (by rw [List.length_map,bz p];exact h3),fun l nl=>q l _ (sm.trans (ao nl)) ⟨none_of sm nl,zs,aa,aP p fun a b r=>⟨r.1,r.2.same (ao nl)⟩,h3⟩⟩
theorem bP.but {C:Addr} {H H':Hp} {r x dx:Addr} {fs:List (Str×V)} {ds:List Cp} (h:bP H x ds) (b:cm r H H') (hr:H r=some (.ins C dx fs)):bP H' x ds:=by
 obtain ⟨cs,h1,h2,h3⟩:=h
 refine ⟨cs,b _ _ h1 (fun z=>by rw [z,hr] at h1;cases h1),aP h2 fun c d q=>b _ _ q (fun z=>?_),h3⟩
 unfold qv at q
 rw [z,hr] at q
 cases q
include T in theorem nF:cC P w K mg base (fA P w) aY "__init__" 5 ["self","deeds","lag"] (iK aY aw):=by
 exists 1,T.kT,uI,vQ,iK
 rename_i r x lag
 refine ⟨_,(aH (nB (HU (zx T) HR (by decide) rfl q_ rfl (ax (pv 1) (ax (pv 2) aq))))
 (aH (PS.nox (aZ (pv 0) (bg (uU T) HR (by decide) rfl (ax (pv 1) aq)) T.oN T.oH))
 (aH (PS.nox (aZ (pv 0) ae T.oN T.kJ))
 (aM (PS.nox (aZ (pv 0) (cw aq) T.oN T.jV)))))),?_⟩
 obtain ⟨dss,dx,hR,hr,q1,q2,q3⟩:=h
 walk_at "wps"
 refine ⟨dss,hR,fun g1 g2 g3 H1 s1=>⟨dss,hR.same s1,fun pd H2 s2 hN=>?_⟩,q2,q3⟩
 have hr2:=s2 _ _ (s1 _ _ hr)
 have s12:=s1.trans s2
 refine ⟨dx,_,hr2,by decide,?_,fun pc npc=>?_⟩
 ·rw [jX];exact ri
 rw [jX,m_] at npc
 rw [jX,m_]
 have rne:r≠pc:=fun z=>by rw [←z,aa] at npc;cases npc
 refine ⟨dx,_,by rw [ak rne,aa],rh,?_⟩
 rw [wg]
 obtain ⟨n0,xs,e1,e2,e3⟩:=hN
 have b2:cm r H2 (upd (upd (upd H2 r (.ins aY dx (jH (.ref pd) (.int 0)))) pc (.lst [])) r (.ins aY dx (mK (.ref pd) (.int 0) (.ref pc)))):=((cm.upd).new npc).write
 have ec:upd (upd (upd H2 r (.ins aY dx (jH (.ref pd) (.int 0)))) pc (.lst [])) r (.ins aY dx (mK (.ref pd) (.int 0) (.ref pc))) pc=some (.lst []):=by rw [ak (Ne.symm rne),aa]
 have er:=aa (H:=upd (upd H2 r (.ins aY dx (jH (.ref pd) (.int 0)))) pc (.lst [])) (a:=r) (o:= .ins aY dx (mK (.ref pd) (.int 0) (.ref pc)))
 generalize upd (upd (upd H2 r (.ins aY dx (jH (.ref pd) (.int 0)))) pc (.lst [])) r (.ins aY dx (mK (.ref pd) (.int 0) (.ref pc)))=HF at*
 have nc2:=GC npc
 have e1':=b2 _ _ e1 (fun z=>by rw [z,hr2] at e1;cases e1)
 refine q1 g1 g2 g3 HF pd pc (fun b o e ne=>b2 b o (s12 b o e) ne) ⟨none_of s1 n0,xs,e1',aP e2 fun y ds q=>⟨none_of s1 q.1,q.2.but b2 hr2⟩,e3⟩ (none_of s12 nc2) ⟨er,⟨xs,e1',aP e2 fun y ds q=>⟨(fun z=>by obtain ⟨_,u,_⟩:=q.2;rw [z,nc2] at u;cases u),q.2.but b2 hr2⟩,e3⟩,⟨[],ec,.nil⟩,?_⟩
 intro z
 rw [z,nc2] at e1
 cases e1
include T in theorem tj:cC P w K mg base (fA P w) aY "under_way" 1 ["self"] (fH aY):=by
 exists 0,T.jL,sU,tW,fH
 rename_i r
 refine ⟨_,(aM (ba (aV (lE K rfl) (by rfl) T.k6 iA (ax (bp (pv 0) T.oN T.jV rfl) aq)))),?_⟩
 obtain ⟨dx,pd,pc,dss,sn,ms,RA,q⟩:=h
 obtain ⟨cs,hc,hp⟩:=RA.hc
 exists RA.hr
 exact ⟨_,.inl (bU.of hc),by rw [List.length_map,bz hp];exact q⟩
include T in theorem qW:cC P w K mg base (fA P w) az "__init__" 1 ["self","at"] (dz az):=by
 exists 0,T.ff,qT,qZ,dz
 rename_i e v
 refine ⟨_,(aM (ye T.qx T.dW (pv 0) (pv 1))),?_⟩
 obtain ⟨he,q⟩:=h
 exists he
 exact ⟨e,rfl,he,q⟩
theorem in_words {k:Str}:O0 (.str k) [.str (Str.ofString "begin"),.str (Str.ofString "end")]=(decide (k = "begin")||decide (k = "end")):=by
 show (((Str.ofString "begin") == k)||(((Str.ofString "end") == k)||false))=_
 rw [Bool.or_false]
 congr 1
 ·rw [Bool.eq_iff_iff,beq_iff_eq,decide_eq_true_eq];exact ⟨fun h=>h.symm,fun h=>h.symm⟩
 ·rw [Bool.eq_iff_iff,beq_iff_eq,decide_eq_true_eq];exact ⟨fun h=>h.symm,fun h=>h.symm⟩
include T in theorem CC:FnAt P w K mg base (fA P w) "is_value" 2 ["word","value"] pD:=by
 exists 0,T.sD,Cq,C0,pD
 rename_i k v
 refine ⟨_,(aH (nA (bR (bq K rfl HR.units) (pv 0) bc (nomark _)) (aM (ba (bg (DU T) HR (by decide) rfl (ax (pv 1) aq)))) c9)
 (aH (nA (bR (bq K rfl HR.units) (pv 0) bc (nomark _)) (aM (ba (bg (bS T) HR (by decide) rfl (ax (pv 1) (ax ae (ax (cp rfl T.qt) aq)))))) c9)
 (aM (ba (bu (bM (Bn K rfl) (pv 0) (cK (ax bc (ax bc aq))) (xM rfl)) (b9 (bM EU (pv 1) eL (nomark _)))))))),?_⟩
 obtain ⟨hv,q⟩:=h
 unfold sI at q
 by_cases c1:k=Str.ofString "put"
 ·
  rw [if_pos c1] at q
  rcases hv with rfl|⟨i,rfl⟩|⟨z,rfl,hz⟩
  ·
   walk_at "wps"
   rw [if_pos c1]
   exact q H (aW.refl _)
  ·
   walk_at "wps"
   rw [if_pos c1]
   exact q H (aW.refl _)
  ·
   walk_at "wps"
   rw [if_pos c1]
   exact ⟨hz,q⟩
 ·
  rw [if_neg c1] at q
  by_cases c2:k=Str.ofString "read"
  ·
   rw [if_pos c2] at q
   rcases hv with rfl|⟨i,rfl⟩|⟨z,rfl,hz⟩
   ·
    walk_at "wps"
    rw [if_neg c1,if_pos c2]
    exact q H (aW.refl _)
   ·
    walk_at "wps"
    rw [if_neg c1,if_pos c2]
    exact q H (aW.refl _)
   ·
    walk_at "wps"
    rw [if_neg c1,if_pos c2]
    exact q H (aW.refl _)
  ·
   rw [if_neg c2] at q
   walk_at "wps"
   rw [if_neg c1,if_neg c2]
   intro p hp
   have sm:=ao (o:= .tup [V.str (Str.ofString "begin"),V.str (Str.ofString "end")]) hp
   refine ⟨_,.inr (iD.of aa),rfl,rfl,?_⟩
   have:=q _ sm
   rw [←in_words] at this
   cases e:O0 (.str k) [V.str (Str.ofString "begin"),V.str (Str.ofString "end")] with
   |true=>rw [e,Bool.true_and] at this;rw [if_pos rfl];exact this
   |false=>rw [e,Bool.false_and] at this;rw [if_neg (by decide)];exact this
include T in theorem DT:FnAt P w K mg base (fA P w) "is_wish" 3 ["wish"] ro:=by
 exists 0,T.vG,Du,Ek,ro
 rename_i x
 refine ⟨_,(aM (ba (bu (aV (fz K rfl) (by rfl) T.a9 a8 (ax (pv 0) (ax (lW rfl T.tY yZ) aq))) (bu (bM (bq K rfl HR.units) (aV (dq K rfl) (by rfl) T.k6 iA (ax (pv 0) aq)) ae (nomark _)) (bu (bg (bS T) HR (by decide) rfl (ax (bL (cV K rfl) (pv 0) ae (fun _ _=>rfl)) (ax ae (ax (cp rfl T.jN) aq)))) (bu (bg (bS T) HR (by decide) rfl (ax (bL (cV K rfl) (pv 0) ae (fun _ _=>rfl)) (ax ae (ax ae aq)))) (b9 (bg (CC T) HR (by decide) rfl (ax (bL (cV K rfl) (pv 0) ae (fun _ _=>rfl)) (ax (bL (cV K rfl) (pv 0) ae (fun _ _=>rfl)) aq)))))))))),?_⟩
 obtain ⟨w,hW,q⟩:=h
 obtain ⟨h1,h2⟩:=hW
 unfold cn at q
 exists h1
 rw [if_pos (by decide)]
 cases e1:bK w.1 0 400 with
 |false=>rw [e1] at q;rw [if_neg (by decide)];exact q H (aW.refl _)
 |true=>
  rw [if_pos rfl]
  cases e2:bK w.2.1 0 1 with
  |false=>rw [e1,e2] at q;rw [if_neg (by decide)];exact q H (aW.refl _)
  |true=>rw [e1,e2] at q;rw [if_pos rfl];exact ⟨h2,q⟩
include T in theorem wK:FnAt P w K mg base (fA P w) "check_wishes" 4 ["wishes"] (ki az):=by
 exists 1,T.mf,ky,xt,ki
 rename_i p
 refine ⟨_,(aM (PS.fly q_ G_ (DM (yh rfl rfl) rfl (EJ rfl T.mL (ax (pv 0) aq)) (Bl K (n:=2) rfl rfl (vY (bI (i:=1) ky.nd rfl (Or.inl rfl)) (vY (bI (i:=2) ky.nd rfl (Or.inl rfl)) Bk))) (aM (nA (PT.nox (PW.pt (pw_or (bR Sw (pv 1) (cp rfl T.nj) (nomark _)) (pw_or1 (uS (Bi (bg (DT T) HR (by decide) rfl (ax (pv 2) aq)))))))) (aM (ou T.qx (qW T) T.rY HR (by decide) G9 rfl rfl rfl (ax (pv 1) aq))) c9))))),?_⟩
 obtain ⟨ws,hW,q1,q2⟩:=h
 obtain ⟨xs,h1,h2,h3⟩:=hW
 have xl:=Bj h2
 walk_at "wps"
 refine E7 h1 (fun i σ H'=>aW H H'∧i≤60∧(∀j<i,∀w,ws[j]?=some w→cn w=true)∧∃v2 v3,σ= [some (V.ref p),v2,v3]) ⟨aW.refl _,Nat.zero_le _,(fun j hj=>absurd hj (by omega)),none,none,rfl⟩ (fun i σ H' _ h=>h.1 _ _ h1) (fun i y pt σ H' hy h hpt=>?_) (fun σ H' h=>?_)
 ·
  obtain ⟨sm,i60,ok,v2,v3,rfl⟩:=h
  rw [List.getElem?_map] at hy
  obtain ⟨y,ey,rfl⟩:=Option.map_eq_some_iff.mp hy
  obtain ⟨w,ew,hD⟩:=DN h2 ey
  have hil:=(List.getElem?_eq_some_iff.mp ew).1
  exists aa
  have smp:=sm.trans (ao (o:= .tup [V.int (i:Int),V.ref y]) hpt)
  by_cases c1:60≤(i:Int)
  ·
   rw [if_pos c1]
   intro e he d hd
   obtain ⟨s3,s4⟩:=dropx (C:=az) (f:="at") (v:= .int i) smp he hd
   exact ⟨_,rfl,q2 i i60 hil (.inl (by omega)) ok _ d s3 s4⟩
  rw [if_neg c1]
  refine ⟨w,⟨smp _ _ hD.1,hD.2⟩,fun H2 s2=>?_⟩
  have sm2:=smp.trans s2
  by_cases c3:cn w=false
  ·
   rw [if_pos c3]
   intro e he d hd
   obtain ⟨s3,s4⟩:=dropx (C:=az) (f:="at") (v:= .int i) sm2 he hd
   exact ⟨_,rfl,q2 i i60 hil (.inr ⟨w,ew,c3⟩) ok _ d s3 s4⟩
  rw [if_neg c3]
  rw [Bool.not_eq_false] at c3
  refine ⟨sm2,by omega,fun j hj w' hw'=>?_,_,_,rfl⟩
  by_cases z:j=i
  ·
   subst z
   rw [ew] at hw'
   cases hw'
   exact c3
  ·exact ok j (by omega) w' hw'
 ·
  obtain ⟨sm,i60,ok,v2,v3,rfl⟩:=h
  rw [List.length_map,xl] at ok i60
  refine q1 i60 (fun w hw=>?_) _ sm
  obtain ⟨i,hi⟩:=List.getElem?_of_mem hw
  exact ok i (List.getElem?_eq_some_iff.mp hi).1 w hi
include T in theorem wJ:FnAt P w K mg base (fA P w) "last_turn_of" 1 ["wishes"] kh:=by
 exists 0,T.ma,wB,xr,kh
 rename_i p
 refine ⟨_,(aM (ba (KP K rfl rfl rfl T.Fg (ax (cx (N:=(["wish"]:List Str)) (nv:=1) (ix:=[]) rfl (kZ (by kernel_rfl)) (c_ K rfl (pv 0)) (fun _ _ _ _ _=>(bI (i:=0) (show ((["wish"]:List Str)).Nodup by decide) rfl (Or.inl rfl))) (fun _ _ _ _ _=>cg) (fun _ _ _ _ _=>(bL (cV K rfl) (pv 0) ae (fun _ _=>rfl)))) aq) (Sr Pf ae)))),?_⟩
 obtain ⟨ws,⟨xs,h1,h2,h3⟩,q⟩:=h
 have hl:=Bj h2
 walk_at "wps"
 refine tQ (xs:=xs.map V.ref) (bU.of h1) (bh (by rw [List.length_map];omega)) (fun i ys σ H'=>H'=H∧ys=((ws.take i).map (fun w=>w.1)).map V.int∧∃v,σ= [v]) ⟨rfl,rfl,_,rfl⟩ (fun i ys σ H' hh=>by rw [hh.2.1,List.length_map,List.length_map,List.length_take];exact Nat.min_le_left _ _) (fun i ys σ H' hh=>by rw [hh.1];exact bU.of h1) (fun i x ys σ H' hx hh=>?_) (fun ys σ H' hh=>?_)
 ·
  obtain ⟨rfl,rfl,v,rfl⟩:=hh
  rw [List.getElem?_map] at hx
  obtain ⟨a,ha,rfl⟩:=Option.map_eq_some_iff.mp hx
  obtain ⟨w,hw,⟨hW,_⟩⟩:=DN h2 ha
  exists hW
  refine ⟨?_,_,rfl⟩
  rw [List.take_add_one,hw,List.map_append,List.map_append]
  rfl
 obtain ⟨rfl,rfl,v,rfl⟩:=hh
 rw [List.take_of_length_le (by rw [List.length_map];omega)]
 refine ⟨bh (by rw [List.length_map,List.length_map];omega),fun l hl=>⟨_,bU.of aa,fun e=>?_,fun _ M hM hle=>?_⟩⟩
 ·
  have e':ws= []:=List.map_eq_nil_iff.mp e
  exact q _ _ (ao hl) (.inl ⟨e',rfl⟩)
 ·
  obtain ⟨w,hw,rfl⟩:=List.mem_map.mp hM
  exact q _ _ (ao hl) (.inr ⟨⟨w,hw,rfl⟩,fun w' hw'=>hle _ (List.mem_map_of_mem hw')⟩)
theorem cm.nw {r:Addr} {H H0 H1:Hp} (n:H r=none) (s:aW H H0) (b:cm r H0 H1):aW H H1:=fun c o e=>b c o (s _ _ e) (fun z=>by rw [z,n] at e;cases e)
theorem bP.bx {C:Addr} {H H':Hp} {r x dx:Addr} {fs:List (Str×V)} {ds:List Cp} (h:bP H x ds) (b:cm r H H') (hr:H r=some (.ins C dx fs)):bP H' x ds:=by
 obtain ⟨cs,c1,c2,c3⟩:=h
 exact ⟨cs,b _ _ c1 (fun z=>by rw [z,hr] at c1;cases c1),aP c2 fun c d u=>b _ _ u (fun z=>by unfold qv at u;rw [z,hr] at u;cases u),c3⟩
theorem nq.bx {C:Addr} {H H':Hp} {r x dx:Addr} {fs:List (Str×V)} {dss:List (List Cp)} (h:nq H x dss) (b:cm r H H') (hr:H r=some (.ins C dx fs)):nq H' x dss:=by
 obtain ⟨xs,h1,h2,h3⟩:=h
 exact ⟨xs,b _ _ h1 (fun z=>by rw [z,hr] at h1;cases h1),aP h2 fun y ds q=>q.bx b hr,h3⟩
theorem qu.bx {C:Addr} {H H':Hp} {r x dx:Addr} {fs:List (Str×V)} {ws:List Ww} (h:qu H x ws) (b:cm r H H') (hr:H r=some (.ins C dx fs)):qu H' x ws:=by
 obtain ⟨xs,h1,h2,h3⟩:=h
 exact ⟨xs,b _ _ h1 (fun z=>by rw [z,hr] at h1;cases h1),aP h2 fun y ds q=>⟨b _ _ q.1 (fun z=>by have q1:=q.1;rw [z,hr] at q1;cases q1),q.2⟩,h3⟩
theorem kW.bx {C C' r x dy dx pd pc:Addr} {fs:List (Str×V)} {H H':Hp} {dss:List (List Cp)} {sn:Int} {ms:List Cm} (h:kW C H r dx pd pc dss sn ms) (b:cm x H H') (hr:H x=some (.ins C' dy fs)) (ne:r≠x):kW C H' r dx pd pc dss sn ms:=by
 obtain ⟨cs,c1,c2⟩:=h.hc
 obtain ⟨xs,x1,x2,x3⟩:=h.hd
 refine ⟨b _ _ h.hr ne,⟨xs,b _ _ x1 (fun z=>by rw [z,hr] at x1;cases x1),aP x2 fun a _ q=>⟨q.1,q.2.bx b hr⟩,x3⟩,⟨cs,b _ _ c1 (fun z=>by rw [z,hr] at c1;cases c1),aP c2 fun a _ q=>b _ _ q (fun z=>by unfold CmT at q;rw [z,hr] at q;cases q)⟩,h.ne⟩
theorem y6.bx {CT x r:Addr} {H H':Hp} {C' dy:Addr} {fs:List (Str×V)} {a o t g f l:Int} (h:y6 CT H x a o t g f l) (b:cm r H H') (hr:H r=some (.ins C' dy fs)) (ne:x≠r):y6 CT H' x a o t g f l:=by
 obtain ⟨dx,p,h1,h2⟩:=h
 exact ⟨dx,p,b _ _ h1 ne,b _ _ h2 (fun z=>by rw [z,hr] at h2;cases h2)⟩
theorem tupset {H:Hp} {p x C dx:Addr} {o:HO} {fs fs':List (Str×V)} (np:H p=none) (hx:H x=some (.ins C dx fs)):cm x H (upd (upd H p o) x (.ins C dx fs'))∧upd (upd H p o) x (.ins C dx fs') x=some (.ins C dx fs')∧upd (upd H p o) x (.ins C dx fs') p=some o∧upd H p o x=some (.ins C dx fs):=by
 have n:x≠p:=av hx np
 exact ⟨(cm.refl.new np).write,aa,by rw [ak n.symm];exact aa,by rw [ak n];exact hx⟩
include T in theorem uW:cC P w K mg base (fA P w) aT "__init__" 7 ["self","terms","roads","wishes"] (iJ aT aY aO aI af ay ar aC aj aE aF ah ag ai bj aw az):=by
  exists 1,T.kS,uH,vP,iJ
  rename_i x tm rd wi
  refine ⟨_,(aH (aZ (pv 0) (cK (ax (HS T.oN (nF T) HR (by decide) rfl q_ rfl (ax (bL (cV K rfl) (pv 2) ae (fun _ _=>rfl)) (ax (bp (pv 1) T.bY T.j0 rfl) aq))) (ax (HS T.oN (nF T) HR (by decide) rfl q_ rfl (ax (bL (cV K rfl) (pv 2) ae (fun _ _=>rfl)) (ax (bp (pv 1) T.bY T.j0 rfl) aq))) aq))) T.bN T.lh)
  (bT (aH (nB (HU (wK T) HR (by decide) rfl q_ rfl (ax (pv 3) aq)))
  (bT (aH (PS.nox (aZ (pv 0) (pv 1) T.bN T.oB))
  (aH (PS.nox (aZ (pv 0) (cK (ax (bg (uU T) HR (by decide) rfl (ax (bL (cV K rfl) (pv 2) ae (fun _ _=>rfl)) aq)) (ax (bg (uU T) HR (by decide) rfl (ax (bL (cV K rfl) (pv 2) ae (fun _ _=>rfl)) aq)) aq))) T.bN T.oC))
  (bT (aH (PS.nox (aZ (pv 0) (eO (fj K rfl) (by rfl) T.o5 o4 (ax (pv 3) aq)) T.bN T.mZ))
  (aH (PS.nox (aZ (pv 0) (bg (wJ T) HR (by decide) rfl (ax (pv 3) aq)) T.bN T.dc))
  (bT (aH (PS.nox (aZ (pv 0) (cK (ax (rT T.cq (nG T) HR (by decide) rfl (ax ae (ax (pv 1) aq))) (ax (rT T.cq (nG T) HR (by decide) rfl (ax ae (ax (pv 1) aq))) aq))) T.bN T.df))
  (bT (aH (PS.nox (aZ (pv 0) (cK (ax (cw aq) (ax (cw aq) aq))) T.bN T.mG))
  (aH (PS.nox (aZ (pv 0) (cw aq) T.bN T.mF))
  (aM (PS.nox (aZ (pv 0) ae T.bN T.jZ))))))))))))))))),?_⟩
  obtain ⟨dx,r,o,t,g,f,l,pa,pb,da,db,ws,hx,hT,hg,hrd,hda,hdb,hl,hwi,e1,e2,e3,q⟩:=h
  have hT':=hT
  obtain ⟨dt,pt,ht1,ht2⟩:=hT
  have n1:tm≠x:=jY ht1 hx (by simp [cX])
  have hg':=hg
  obtain ⟨g1,⟨g2,g3⟩,g4,g5,g6⟩:=hg'
  have fg:bK g 1 60=true:=by unfold bK;simp;omega
  generalize h_u1:aR _=u1
  exists hx,hrd,ht1
  intro r0 x0 nr0 nx0 _
  have s0:=lK (C:=aY) (fs:=[]) nr0 nx0
  refine ⟨da,x0,hda.same s0,rfl,fun _ _ okA H1 pd pc b1 _ _ R1=>?_,fun c=>?_,fun _ _ i ds a1 a2 a3 H' d sm hd=>e1 i ⟨⟨ds,a1,a2⟩,a3⟩ H' d (s0.trans sm) hd⟩
  rotate_left
  ·
    rcases c with c|c
    · rw [fg] at c;cases c
    · exact absurd c (by omega)
  have S1:aW H H1:=cm.nw nr0 s0 b1
  have y0:r0≠x:=(av hx nr0).symm
  clear b1 s0
  exists S1 _ _ hrd,S1 _ _ ht1
  intro r1 x1 nr1 nx1 _
  have s1:=lK (C:=aY) (fs:=[]) nr1 nx1
  refine ⟨db,x1,hdb.same (S1.trans s1),rfl,fun _ _ okB H2 pd2 pc2 b2 _ _ R2=>?_,fun c=>?_,fun _ _ i ds a1 a2 a3 H' d sm hd=>e2 okA i ⟨⟨ds,a1,a2⟩,a3⟩ H' d ((S1.trans s1).trans sm) hd⟩
  rotate_left
  ·
    rcases c with c|c
    · rw [fg] at c;cases c
    · exact absurd c (by omega)
  have S12:aW H1 H2:=cm.nw nr1 s1 b2
  have S2:=S1.trans S12
  have y1:r1≠x:=(av (S1 _ _ hx) nr1).symm
  have R1:=R1.same S12
  clear b2 s1 S1 S12 e1 e2
  have x2:=S2 _ _ hx
  intro p1 np1
  have xp1:x≠p1:=av x2 np1
  have h3e: ∃H3,H3=upd (upd H2 p1 (.tup [.ref r0,.ref r1])) x (.ins aT dx (bD (Str.ofString "roads") (V.ref p1) [])):=⟨_,rfl⟩
  obtain ⟨H3,eH3⟩:=h3e
  have x3:H3 x=some (.ins aT dx (bD (Str.ofString "roads") (V.ref p1) [])):=by rw [eH3];exact aa
  have B2:cm x H2 H3:=by rw [eH3];exact (cm.refl.new np1).write
  have hp1:H3 p1=some (.tup [.ref r0,.ref r1]):=by rw [eH3,ak xp1.symm];exact aa
  refine ⟨dx,[],by rw [ak xp1];exact x2,by decide,?_⟩
  rw [←eH3]
  clear eH3
  have R1:=R1.bx B2 x2 y0
  have R2:=R2.bx B2 x2 y1
  have B3:cm x H H3:=fun b o e n=>B2 _ _ (S2 _ _ e) n
  have hT3:y6 bj H3 tm r o t g f l:=hT'.bx B3 hx n1
  have hwi3:=hwi.bx B3 hx
  rw [←h_u1,aR]
  generalize h_u2:aR _=u2
  walk_at "wps"
  refine ⟨ws,hwi3,fun l60 okW H4 S34=>?_,fun i i60 il a1 a2 H' d sm hd=>e3 okA okB i ⟨i60,il,a1,a2⟩ H' d (B3.same sm) hd⟩
  have x4:=S34 _ _ x3
  have R1:=R1.same S34
  have R2:=R2.same S34
  have hp1:=S34 _ _ hp1
  have B4:cm x H H4:=B3.same S34
  clear hT3 hwi3 x3 S34 B2 B3 S2 x2 np1 e3
  rw [←h_u2,aR]
  generalize h_u3:aR _=u3
  exists x4
  have B45:cm x H4 (upd H4 x (HO.ins aT dx (dh (V.ref p1) (V.ref tm)))):=cm.upd
  have x5:upd H4 x (HO.ins aT dx (dh (V.ref p1) (V.ref tm))) x=some (HO.ins aT dx (dh (V.ref p1) (V.ref tm))):=aa
  generalize upd H4 x (HO.ins aT dx (dh (V.ref p1) (V.ref tm)))=H5 at*
  have B5:=B4.trans B45
  have R1:=R1.bx B45 x4 y0
  have R2:=R2.bx B45 x4 y1
  have hp1:=B45 _ _ hp1 xp1.symm
  have nrd:rd≠x:=jY hrd hx (by simp)
  have hrd5:=B5 _ _ hrd nrd
  clear B4 B45 x4
  exists hrd5
  refine ⟨da,hda.bx B5 hx,fun c1 H6 S56 _=>?_⟩
  exists S56 _ _ hrd5
  refine ⟨db,(hdb.bx B5 hx).same S56,fun c2 H7 S67 _=>?_⟩
  intro p2 np2
  have S57:=S56.trans S67
  have x7:=S57 _ _ x5
  obtain ⟨B78,x8,hp2,xx⟩:=tupset (o:= .tup [V.ref c1,V.ref c2]) (fs':=bD (Str.ofString "deeds") (V.ref p2) (dh (V.ref p1) (V.ref tm))) np2 x7
  refine ⟨dx,_,xx,by simp [dh],?_⟩
  generalize upd (upd H7 p2 (.tup [V.ref c1,V.ref c2])) x (.ins aT dx (bD (Str.ofString "deeds") (V.ref p2) (dh (V.ref p1) (V.ref tm))))=H8 at*
  have B8:=(B5.same S57).trans B78
  have R1:=(R1.same S57).bx B78 x7 y0
  have R2:=(R2.same S57).bx B78 x7 y1
  have hp1:=B78 _ _ (S57 _ _ hp1) xp1.symm
  clear B5 B78 x7 x5 S57 S56 S67 xx np2 hrd5
  have hwi8:=hwi.bx B8 hx
  rw [←h_u3,aR]
  generalize h_u4:aR _=u4
  obtain ⟨wx,hw1,hw2,hw3⟩:=hwi8
  have hw4:=Bj hw2
  exists hw1
  refine ⟨_,.inl (bU.of hw1),fun l3 nl3=>?_⟩
  have ef3: ∃f3,f3=bD (Str.ofString "deeds") (V.ref p2) (dh (V.ref p1) (V.ref tm)):=⟨_,rfl⟩
  obtain ⟨f3,ef3⟩:=ef3
  rw [←ef3] at x8
  obtain ⟨B89,x9,_,xx⟩:=tupset (o:= .lst (wx.map V.ref)) (fs':=bD (Str.ofString "wishes") (V.ref l3) f3) nl3 x8
  have ff3:f3=AA (V.ref p1) (V.ref tm) (V.ref p2):=by rw [ef3];rfl
  refine ⟨dx,_,xx,by rw [ff3];simp [AA],?_⟩
  generalize upd (upd H8 l3 (.lst (wx.map V.ref))) x (.ins aT dx (bD (Str.ofString "wishes") (V.ref l3) f3))=H9 at*
  have B9:=B8.trans B89
  have R1:=R1.bx B89 x8 y0
  have R2:=R2.bx B89 x8 y1
  have hp1:=B89 _ _ hp1 xp1.symm
  clear B89 x8 xx nl3 B8 hp2
  refine ⟨ws,hwi.bx B9 hx,fun M H10 S910 hM=>?_⟩
  have x10:=S910 _ _ x9
  have ef4: ∃f4,f4=bD (Str.ofString "wishes") (V.ref l3) f3:=⟨_,rfl⟩
  obtain ⟨f4,ef4⟩:=ef4
  rw [←ef4] at x10
  have ff4:f4=Az (V.ref p1) (V.ref tm) (V.ref p2) (V.ref l3):=by rw [ef4,ff3];rfl
  refine ⟨dx,_,x10,by rw [ff4];simp [Az],?_⟩
  have ef5:bD (Str.ofString "last_wish") (V.int M) f4=cG (V.ref p1) (V.ref tm) (V.ref p2) (V.ref l3) (V.int M):=by rw [ff4];rfl
  rw [ef5]
  have B101:cm x H10 (upd H10 x (.ins aT dx (cG (V.ref p1) (V.ref tm) (V.ref p2) (V.ref l3) (V.int M)))):=cm.upd
  have x11:upd H10 x (.ins aT dx (cG (V.ref p1) (V.ref tm) (V.ref p2) (V.ref l3) (V.int M))) x=some (.ins aT dx (cG (V.ref p1) (V.ref tm) (V.ref p2) (V.ref l3) (V.int M))):=aa
  generalize upd H10 x (.ins aT dx (cG (V.ref p1) (V.ref tm) (V.ref p2) (V.ref l3) (V.int M)))=H11 at*
  have B11:=(B9.same S910).trans B101
  have R1:=(R1.same S910).bx B101 x10 y0
  have R2:=(R2.same S910).bx B101 x10 y1
  have hp1:=B101 _ _ (S910 _ _ hp1) xp1.symm
  have hT:=hT'.bx B11 hx n1
  clear B9 B101 x10 S910 x9 ef5 ef4 ef3 ff3 ff4 hw1 hw2 hw3 hw4
  rw [←h_u4,aR]
  generalize h_u5:aR _=u5
  walk_at "wps"
  intro h0 d0 nh0 nd0 _
  have t0:=lK (C:=aO) (fs:=[]) nh0 nd0
  refine ⟨d0,r,o,t,g,f,l,rfl,hT.same t0,hg,fun A0 H12 b12 fr0 hH0=>?_⟩
  have S12:aW H11 H12:=cm.nw nh0 t0 b12
  have x12:=S12 _ _ x11
  have k0: ∀b∈foot h0 A0,b≠x:=fun b hb z=>by
    rcases List.mem_cons.mp hb with e|e
    · exact av x11 nh0 (z.symm.trans e)
    ·
      have:=fr0 b e
      rw [z,t0 _ _ x11] at this
      cases this
  clear b12 fr0 t0 nh0 nd0
  intro h1 d1 nh1 nd1 _
  have t1:=lK (C:=aO) (fs:=[]) nh1 nd1
  refine ⟨d1,r,o,t,g,f,l,rfl,hT.same (S12.trans t1),hg,fun A1 H13 b13 fr1 hH1=>?_⟩
  have S13:aW H12 H13:=cm.nw nh1 t1 b13
  have k1: ∀b∈foot h1 A1,b≠x:=fun b hb z=>by
    rcases List.mem_cons.mp hb with e|e
    · exact av x12 nh1 (z.symm.trans e)
    ·
      have:=fr1 b e
      rw [z,t1 _ _ x12] at this
      cases this
  have x13:=S13 _ _ x12
  have hH0:=hH0.same S13
  have S113:=S12.trans S13
  clear b13 fr1 t1 nh1 nd1 S12 S13 x12
  intro p3 np3
  obtain ⟨B134,x14,hp3,xx⟩:=tupset (o:= .tup [V.ref h0,V.ref h1]) (fs':=bD (Str.ofString "hands") (V.ref p3) (cG (V.ref p1) (V.ref tm) (V.ref p2) (V.ref l3) (V.int M))) np3 x13
  refine ⟨dx,_,xx,by simp [cG],?_⟩
  have im: ∀b u,H13 b=some u→Imm u→b ∉ [x]:=fun b u e iu z=>by
    rw [List.mem_singleton.mp z,x13] at e
    cases e
    rcases iu with ⟨a,c⟩|⟨a,b,c⟩|c
    · cases c
    · simp [cG] at c
    ·
      obtain ⟨a,b,c⟩:=c
      cases c
  generalize upd (upd H13 p3 (.tup [V.ref h0,V.ref h1])) x (.ins aT dx (bD (Str.ofString "hands") (V.ref p3) (cG (V.ref p1) (V.ref tm) (V.ref p2) (V.ref l3) (V.int M))))=H14 at*
  have B14:=(B11.same S113).trans B134
  have R1:=(R1.same S113).bx B134 x13 y0
  have R2:=(R2.same S113).bx B134 x13 y1
  have hp1:=B134 _ _ (S113 _ _ hp1) xp1.symm
  have dj: ∀{b:Addr} {L:List Addr},(∀b∈L,b≠x)→b∈L→b ∉ [x]:=fun h hb z=>h _ hb (List.mem_singleton.mp z)
  have hH0:=hH0.kp (S:=[x]) (Kp.but B134 (List.mem_singleton.mpr rfl)) (fun b hb=>dj k0 hb) im
  have hH1:=hH1.kp (S:=[x]) (Kp.but B134 (List.mem_singleton.mpr rfl)) (fun b hb=>dj k1 hb) im
  have ef6:bD (Str.ofString "hands") (V.ref p3) (cG (V.ref p1) (V.ref tm) (V.ref p2) (V.ref l3) (V.int M))=lC (V.ref p1) (V.ref tm) (V.ref p2) (V.ref l3) (V.int M) (V.ref p3):=rfl
  rw [ef6] at x14
  clear im B134 B11 S113 x13 xx np3 hT x11
  rw [←h_u5,aR]
  walk_at "wps"
  intro o0 no0 o1 no1 p4 np4
  have SA:=(ao (o:= .lst []) no0).trans (ao (o:= .lst []) no1)
  have ho0:upd (upd H14 o0 (.lst [])) o1 (.lst []) o0=some (.lst []):=ao no1 _ _ aa
  have ho1:upd (upd H14 o0 (.lst [])) o1 (.lst []) o1=some (.lst []):=aa
  have no0x:o0≠x:=(av x14 no0).symm
  have no1x:o1≠x:=(av (ao (o:= .lst []) no0 _ _ x14) no1).symm
  clear no1
  generalize upd (upd H14 o0 (.lst [])) o1 (.lst [])=H15 at*
  have x15:=SA _ _ x14
  have np4x:p4≠x:=(av x15 np4).symm
  obtain ⟨B156,x16,hp4,xx⟩:=tupset (o:= .tup [V.ref o0,V.ref o1]) (fs':=bD (Str.ofString "outs") (V.ref p4) (lC (V.ref p1) (V.ref tm) (V.ref p2) (V.ref l3) (V.int M) (V.ref p3))) np4 x15
  refine ⟨dx,_,xx,by simp [lC],?_⟩
  clear xx
  generalize upd (upd H15 p4 (.tup [V.ref o0,V.ref o1])) x (.ins aT dx (bD (Str.ofString "outs") (V.ref p4) (lC (V.ref p1) (V.ref tm) (V.ref p2) (V.ref l3) (V.int M) (V.ref p3))))=H16 at*
  have ef7:bD (Str.ofString "outs") (V.ref p4) (lC (V.ref p1) (V.ref tm) (V.ref p2) (V.ref l3) (V.int M) (V.ref p3))=vn (V.ref p1) (V.ref tm) (V.ref p2) (V.ref l3) (V.int M) (V.ref p3) (V.ref p4):=rfl
  rw [ef7] at x16
  intro p5 np5
  have ef8:bD (Str.ofString "told") (V.ref p5) (vn (V.ref p1) (V.ref tm) (V.ref p2) (V.ref l3) (V.int M) (V.ref p3) (V.ref p4))=vm (V.ref p1) (V.ref tm) (V.ref p2) (V.ref l3) (V.int M) (V.ref p3) (V.ref p4) (V.ref p5):=rfl
  have ef9:bD (Str.ofString "turn") (V.int 0) (vm (V.ref p1) (V.ref tm) (V.ref p2) (V.ref l3) (V.int M) (V.ref p3) (V.ref p4) (V.ref p5))=cj (V.ref p1) (V.ref tm) (V.ref p2) (V.ref l3) (V.int M) (V.ref p3) (V.ref p4) (V.ref p5) (V.int 0):=rfl
  obtain ⟨B167,x17,hp5,xx⟩:=tupset (o:= .lst []) (fs':=cj (V.ref p1) (V.ref tm) (V.ref p2) (V.ref l3) (V.int M) (V.ref p3) (V.ref p4) (V.ref p5) (V.int 0)) np5 x16
  refine ⟨dx,_,xx,by simp [vn],by rw [ef8];simp [vm],?_⟩
  rw [ef8,ef9]
  clear xx ef7 ef8 ef9
  generalize upd (upd H16 p5 (.lst [])) x (.ins aT dx (cj (V.ref p1) (V.ref tm) (V.ref p2) (V.ref l3) (V.int M) (V.ref p3) (V.ref p4) (V.ref p5) (V.int 0)))=H17 at*
  have Bt:cm x H14 H17:=((cm.refl.same SA).trans B156).trans B167
  have im: ∀b u,H14 b=some u→Imm u→b ∉ [x]:=fun b u e iu z=>by
    rw [List.mem_singleton.mp z,x14] at e
    cases e
    rcases iu with ⟨a,c⟩|⟨a,b,c⟩|⟨a,b,c⟩
    · cases c
    · simp [lC] at c
    · cases c
  have hp3x:p3≠x:=jY hp3 x14 (by simp)
  exact q okA okB l60 okW H17 p1 p2 l3 p3 p4 p5 r0 r1 h0 h1 o0 o1 M A0 A1 (B14.trans Bt) hM
    ⟨
     x17,Bt _ _ hp1 xp1.symm,⟨_,_,_,R1.bx Bt x14 y0⟩,⟨_,_,_,R2.bx Bt x14 y1⟩,Bt _ _ hp3 hp3x,
     hH0.kp (S:=[x]) (Kp.but Bt (List.mem_singleton.mpr rfl)) (fun b hb=>dj k0 hb) im,
     hH1.kp (S:=[x]) (Kp.but Bt (List.mem_singleton.mpr rfl)) (fun b hb=>dj k1 hb) im,
     B167 _ _ hp4 np4x,B167 _ _ (B156 _ _ ho0 no0x) no0x,B167 _ _ (B156 _ _ ho1 no1x) no1x,hp5⟩
include T in theorem yj:cC P w K mg base (fA P w) aT "unread" 1 ["self","side"] (lH aT aY aO aI af ay ar aC aj aE aF ah ag ai):=by
 exists 0,T.ng,pF,y2,lH
 rename_i x side
 refine ⟨_,(aH (bo (i:=2) pF.nd rfl (Or.inl rfl) (bp (bL (cV K rfl) (bp (pv 0) T.bN T.df rfl) (pv 1) (fun _ _=>rfl)) T.cq T.ll rfl))
 (aM (ba (aN lY (bp (pv 2) T.jW T.mI rfl) (bp (pv 2) T.jW T.mH rfl))))),?_⟩
 obtain ⟨hs,M,hW,q⟩:=h
 obtain ⟨dx,tm,rds,ded,wl,hs',os,td,r0,r1,h0,h1,o0,o1,da,db,A0,A1,r,o,t,f,l,W⟩:=hW
 have ha:=W.ha.tk.hx
 have hb:=W.hb.tk.hx
 rcases hs with rfl|rfl
 ·
  exists W.hx,W.hh,W.ha.hx,ha,C6
  exact q
 ·
  exists W.hx,W.hh,W.hb.hx,hb,C5
  exact q
include T in theorem o_:cC P w K mg base (fA P w) aT "side_is_quiet" 3 ["self","side"] (cI aT aY aO aI af ay ar aC aj aE aF ah ag ai):=by
 exists 0,T.cZ,iE,pj,cI
 rename_i x side
 refine ⟨_,(aH (bo (i:=2) iE.nd rfl (Or.inl rfl) (bL (cV K rfl) (bp (pv 0) T.bN T.df rfl) (pv 1) (fun _ _=>rfl)))
 (aM (ba (bu (bM (bq K rfl HR.units) (ow (pv 2) T.cq (Bv T) HR (by decide)) bc (nomark _)) (bu (ow (pv 2) T.cq (zA T) HR (by decide)) (bu (bM (bq K rfl HR.units) (rS (pv 0) T.bN (yj T) HR (by decide) (ax (pv 1) aq)) ae (nomark _)) (b9 (bM (bq K rfl HR.units) (ow (bL (cV K rfl) (bp (pv 0) T.bN T.lh rfl) (pv 1) (fun _ _=>rfl)) T.oN (tj T) HR (by decide)) ae (nomark _))))))))),?_⟩
 obtain ⟨hs,M,hW,q⟩:=h
 have hW':=hW
 obtain ⟨dx,tm,rds,ded,wl,hs',os,td,r0,r1,h0,h1,o0,o1,da,db,A0,A1,r,o,t,f,l,W⟩:=hW'
 obtain ⟨_,_,_,Ra⟩:=W.ra
 obtain ⟨_,_,_,Rb⟩:=W.rb
 rcases hs with rfl|rfl
 ·
  exists W.hx,W.hh,W.ha.hx,W.hr,Ra.hr
  refine ⟨_,_,W.ha,?_⟩
  rw [if_pos (show (j1 0 r o t f l).nm=Str.ofString "shut" from rfl)]
  refine ⟨_,_,W.ha,?_⟩
  rw [if_pos (show (decide ((j1 0 r o t f l).sd.b=(j1 0 r o t f l).sd.t)&&decide ((j1 0 r o t f l).sd.t=((j1 0 r o t f l).sd.T.length:Int)) && !(j1 0 r o t f l).due)=true from rfl)]
  exact ⟨M,hW,_,_,_,_,_,_,Ra,q⟩
 ·
  exists W.hx,W.hh,W.hb.hx,W.hr,Rb.hr
  refine ⟨_,_,W.hb,?_⟩
  rw [if_pos (show (j1 1 r t o f l).nm=Str.ofString "shut" from rfl)]
  refine ⟨_,_,W.hb,?_⟩
  rw [if_pos (show (decide ((j1 1 r t o f l).sd.b=(j1 1 r t o f l).sd.t)&&decide ((j1 1 r t o f l).sd.t=((j1 1 r t o f l).sd.T.length:Int)) && !(j1 1 r t o f l).due)=true from rfl)]
  exact ⟨M,hW,_,_,_,_,_,_,Rb,q⟩
include T in theorem zz:cC P w K mg base (fA P w) aT "quiet" 4 ["self"] (mR aT aY aO aI af ay ar aC aj aE aF ah ag ai):=by
 exists 0,T.oX,zu,z7,mR
 rename_i x
 refine ⟨_,(aM (ba (bu (bM HY (bp (pv 0) T.bN T.jZ rfl) (bp (pv 0) T.bN T.dc rfl) (nomark _)) (b9 (aV (lF K rfl rfl) (by rfl) T.wk vM (ax (cx (N:=(["side","self"]:List Str)) (nv:=1) (ix:=[0]) rfl (kZ (by kernel_rfl)) (c_ K rfl (HP K rfl rfl T.BP)) (fun _ _ _ _ _=>(bI (i:=0) (show ((["side","self"]:List Str)).Nodup by decide) rfl (Or.inl rfl))) (fun _ _ _ _ _=>cg) (fun _ _ _ _ _=>(rS (pv 1) T.bN (o_ T) HR (by decide) (ax (pv 0) aq)))) aq)))))),?_⟩
 obtain ⟨M,hW,q⟩:=h
 have hW':=hW
 obtain ⟨dx,tm,rds,ded,wl,hs',os,td,r0,r1,h0,h1,o0,o1,da,db,A0,A1,r,o,t,f,l,W⟩:=hW'
 exists W.hx
 by_cases c:M<0
 ·
  rw [if_pos c]
  rw [decide_eq_true c] at q
  intro a sa _
  refine Ee (p:=fun _=>true) (f:=fun _=>V.bl true) (sa H) (bh (by simp)) (fun y _ Q h=>h) (fun y hy _ Q h=>?_) ?_
  ·have hs: ∃s:Int,y = .int s∧(s=0∨s=1):=by
    simp only [List.mem_cons,List.not_mem_nil,or_false] at hy
    rcases hy with rfl|rfl
    ·exact ⟨_,rfl,.inl rfl⟩
    ·exact ⟨_,rfl,.inr rfl⟩
   obtain ⟨s,rfl,hs⟩:=hs
   exists W.hx
   exact ⟨hs,M,hW,h⟩
  ·exact ⟨bh (by simp),fun l hl=>⟨[true,true],bU.of aa,q _ (ao hl)⟩⟩
 ·
  rw [if_neg c]
  rw [decide_eq_false c] at q
  exact q H (aW.refl _)
include T in theorem DS:FnAt P w K mg base (fA P w) "own_row" 1 ["row"] rl:=by
 exists 0,T.vF,Ds,Ej,rl
 rename_i x
 refine ⟨_,(aM (ba (CA (bR (bq K rfl HR.units) (bL (cV K rfl) (pv 0) ae (fun _ _=>rfl)) bc (nomark _)) (cK (ax (bL (cV K rfl) (pv 0) ae (fun _ _=>rfl)) (ax (bL (cV K rfl) (pv 0) ae (fun _ _=>rfl)) (ax (bL (cV K rfl) (pv 0) ae (fun _ _=>rfl)) (ax (eO (fj K rfl) (by rfl) T.o5 o4 (ax (bL (cV K rfl) (pv 0) ae (fun _ _=>rfl)) aq)) aq))))) (pv 0)))),?_⟩
 exact h.1.elim
include T in theorem Bq:cC P w K mg base (fA P w) aT "rows" 2 ["self"] (nT aT aY aO aI af ay ar aC aj aE aF ah ag ai):=by
 exists 0,T.qj,AZ,BW,nT
 rename_i x
 refine ⟨_,(aM (ba (cx (N:=(["row"]:List Str)) (nv:=1) (ix:=[]) rfl (kZ (by kernel_rfl)) (c_ K rfl (bp (pv 0) T.bN T.mF rfl)) (fun _ _ _ _ _=>(bI (i:=0) (show ((["row"]:List Str)).Nodup by decide) rfl (Or.inl rfl))) (fun _ _ _ _ _=>cg) (fun _ _ _ _ _=>(bg (DS T) HR (by decide) rfl (ax (pv 0) aq)))))),?_⟩
 obtain ⟨M,hW,q⟩:=h
 obtain ⟨dx,tm,rds,ded,wl,hs',os,td,r0,r1,h0,h1,o0,o1,da,db,A0,A1,r,o,t,f,l,W⟩:=hW
 exists W.hx
 refine Fe (p:=fun _=>true) (f:=fun v=>v) (bU.of W.ht) (bh (by simp)) (fun y hy=>absurd hy List.not_mem_nil) (fun y hy=>absurd hy List.not_mem_nil) ?_
 exact ⟨bh (by simp),fun l hl=>q _ _ (ao hl) aa⟩
include T in theorem nE:cC P w K mg base (fA P w) aT "given_in" 2 ["self","side"] (iI aT aY aO aI af ay ar aC aj aE aF ah ag ai):=by
 exists 0,T.kR,nz,vO,iI
 rename_i x side
 refine ⟨_,(aH (bo (i:=2) nz.nd rfl (Or.inr rfl) (bp (bL (cV K rfl) (bp (pv 0) T.bN T.df rfl) (pv 1) (fun _ _=>rfl)) T.cq T.b_ rfl))
 (aM (ba (cx (N:=(["place","sender"]:List Str)) (nv:=1) (ix:=[2]) rfl (kZ (by kernel_rfl)) (qz rfl T.qH (ax (ow (pv 2) T.bG (pR T) HR (by decide)) aq)) (fun _ _ _ _ _=>(bI (i:=0) (show ((["place","sender"]:List Str)).Nodup by decide) rfl (Or.inl rfl))) (fun _ _ _ _ _=>cg) (fun _ _ _ _ _=>(rS (pv 1) T.bG (wN T) HR (by decide) (ax (pv 0) aq))))))),?_⟩
 obtain ⟨hs,M,hW,q⟩:=h
 obtain ⟨dx,tm,rds,ded,wl,hs',os,td,r0,r1,h0,h1,o0,o1,da,db,A0,A1,r,o,t,f,l,W⟩:=hW
 rcases hs with rfl|rfl
 ·
  exists W.hx,W.hh,W.ha.hx,W.ha.sd.hx
  refine ⟨_,_,W.ha.sd,(show -4611686018427387904≤(0:Int)∧(0:Int)<4611686018427387904 by decide),?_⟩
  refine Ef (p:=fun _=>true) (f:=fun v=>v) (n:=0) (bh (by decide)) (fun i hi=>absurd hi (by omega)) (fun i hi=>absurd hi (by omega)) ?_
  exact ⟨bh (by decide),fun l hl=>q _ _ (ao hl) aa⟩
 ·
  exists W.hx,W.hh,W.hb.hx,W.hb.sd.hx
  refine ⟨_,_,W.hb.sd,(show -4611686018427387904≤(0:Int)∧(0:Int)<4611686018427387904 by decide),?_⟩
  refine Ef (p:=fun _=>true) (f:=fun v=>v) (n:=0) (bh (by decide)) (fun i hi=>absurd hi (by omega)) (fun i hi=>absurd hi (by omega)) ?_
  exact ⟨bh (by decide),fun l hl=>q _ _ (ao hl) aa⟩
include T in theorem mE:cC P w K mg base (fA P w) aT "given_out" 1 ["self","side"] (fE aT aY aO aI af ay ar aC aj aE aF ah ag ai):=by
 exists 0,T.jI,sS,tT,fE
 rename_i x side
 refine ⟨_,(aM (ba (eO (fj K rfl) (by rfl) T.o5 o4 (ax (bL (cV K rfl) (bp (pv 0) T.bN T.mG rfl) (pv 1) (fun _ _=>rfl)) aq)))),?_⟩
 obtain ⟨hs,M,hW,q⟩:=h
 obtain ⟨dx,tm,rds,ded,wl,hs',os,td,r0,r1,h0,h1,o0,o1,da,db,A0,A1,r,o,t,f,l,W⟩:=hW
 rcases hs with rfl|rfl
 ·
  exists W.hx,W.ho
  exact ⟨_,.inl (bU.of W.oa),fun l hl=>q l _ (ao hl) aa⟩
 ·
  exists W.hx,W.ho
  exact ⟨_,.inl (bU.of W.ob),fun l hl=>q l _ (ao hl) aa⟩
include T in theorem d5:FnAt P w K mg base (fA P w) "_law_cell_at" 1 ["_law_script","_law_k"] (kl K):=by
 exists 0,T.mi,wC,xv,kl
 rename_i a k
 refine ⟨_,(aH (nA (bR LQ (pv 1) (aV (lE K rfl) (by rfl) T.k6 iA (ax (pv 0) aq)) (nomark _)) (aM (ba (bL (Iw K rfl) (pv 0) (pv 1) (fun _ _=>rfl)))) c9)
 (aM (ba ae))),?_⟩
 obtain ⟨ns,hS,h0,q⟩:=h
 walk_at "wps"
 refine ⟨_,.inl hS,?_⟩
 rw [List.length_map]
 split
 ·rename_i c;exact Iy hS h0 c (q _)
 ·exact q _
include T in theorem cF:FnAt P w K mg base (fA P w) "_law_mixed" 1 ["_law_cell","_law_k"] mP:=by
 exists 0,T.oV,q9,z5,mP
 rename_i c k
 refine ⟨_,(aH (bo (i:=2) q9.nd rfl (Or.inl rfl) (aN bE (aN yi (aN (bb K rfl) (aN (bb K rfl) (pv 0) (aN yi ae (pv 1))) ae) ae) ae))
 (aM (ba (aN bE (aN yi (pv 2) (aN (bb K rfl) (aN bF (pv 2) ae) ae)) ae)))),?_⟩
 walk_at "wps"
 refine ⟨.inl ⟨by omega,by omega⟩,?_⟩
 exact h _ (Int.emod_nonneg _ (by decide)) (Int.emod_lt_of_pos _ (by decide))
theorem join_ones (cs:List Nat):(Txt.join (Str.ofString "") (cs.map fun c=>(⟨#[c]⟩:Str))).cps.toList=cs:=by
 cases cs with
 |nil=>rfl
 |cons a l=>
  have: ∀(l:List Nat) (z:Array Nat),((l.map fun c=>(⟨#[c]⟩:Str)).foldl (fun acc p=>acc++(Str.ofString "").cps++p.cps) z).toList=z.toList++l:=by
   intro l
   induction l with
   |nil=>intro z;simp
   |cons b l ih=>
    intro z
    rw [List.map_cons,List.foldl_cons,ih]
    show ((z ++ #[]) ++ #[b]).toList++l=_
    simp
  exact this l #[a]
include T in theorem lg:FnAt P w K mg base (fA P w) "_law_text" 1 ["_law_number","_law_size"] nR:=by
 exists 0,T.qi,k_,BV,nR
 rename_i c n
 refine ⟨_,(aH (bo (i:=2) k_.nd rfl (Or.inr rfl) bc)
 (aH (bo (i:=2) k_.nd rfl (Or.inr rfl) (aN (bb K rfl) (pv 2) bc))
 (aH (bo (i:=3) k_.nd rfl (Or.inr rfl) (aN (bb K rfl) ae (aN bE (aN bF (pv 0) ae) ae)))
 (aM (ba (Qf K rfl PySem.F.plainAttrs_str PySem.F.slot_str_join PySem.F.type_str_join (Ii K rfl) bc (ax (cx (N:=(["_law_k","_law_some","_law_number","_law_step"]:List Str)) (nv:=1) (ix:=[2,0,3]) rfl (kZ (by kernel_rfl)) (qz rfl T.qH (ax (pv 1) aq)) (fun _ _ _ _ _=>(bI (i:=0) (show ((["_law_k","_law_some","_law_number","_law_step"]:List Str)).Nodup by decide) rfl (Or.inl rfl))) (fun _ _ _ _ _=>cg) (fun _ _ _ _ _=>(bL (cV K rfl) (pv 1) (aN bE (aN (bb K rfl) (pv 2) (aN yi (pv 0) (pv 3))) ae) (fun _ _=>rfl)))) aq))))))),?_⟩
 obtain ⟨hc,hn,q⟩:=h
 walk_at "wps"
 refine ⟨by rw [sizeLine_eq];decide+kernel,⟨by omega,by omega⟩,?_⟩
 rw [show (Str.ofString " !\"#$&'()*+,-./0123456789:;<=>?@ABCDEFGHIJKLMNOPQRSTUVWXYZ[\\]^_`" ++Str.ofString "abcdefghijklmnopqrstuvwxyz{|}~")=AW by decide+kernel]
 have ci: ∀i:Nat,((c+(i:Int)*(1+c / 94 % 93)) % 94).toNat<sgl.length:=fun i=>by
  have:=Int.emod_lt_of_pos (c+(i:Int)*(1+c / 94 % 93)) (show (0:Int)<94 by decide)
  rw [EC];omega
 refine Ef (p:=fun _=>true) (f:=fun v=>match v with | .int i=> .str ⟨#[sgl.getD ((c+i*(1+c / 94 % 93)) % 94).toNat 0]⟩|v=>v) (bh (by omega)) (fun i hi Q' q'=>q') (fun i hi _ Q' q'=>?_) ?_
 ·
  have b1:=Int.emod_nonneg (c / 94) (show (93:Int)≠0 by decide)
  have b2:=Int.emod_lt_of_pos (c / 94) (show (0:Int)<93 by decide)
  walk_at "wps"
  refine ⟨.inl ⟨by omega,by omega⟩,?_⟩
  rw [Hs]
  have i0:=Int.emod_nonneg (c+(0+(i:Int))*(1+c / 94 % 93)) (show (94:Int)≠0 by decide)
  have i1:=Int.emod_lt_of_pos (c+(0+(i:Int))*(1+c / 94 % 93)) (show (0:Int)<94 by decide)
  replace q':Q' (.str ⟨#[sgl.getD ((c+(0+(i:Int))*(1+c / 94 % 93)) % 94).toNat 0]⟩) H:=q'
  generalize (c+(0+(i:Int))*(1+c / 94 % 93)) % 94=m at*
  obtain ⟨j,ej⟩: ∃j:Nat,m=(j:Int):=⟨m.toNat,by omega⟩
  subst ej
  have hj:j<sgl.length:=by rw [EC];omega
  rw [Int.toNat_natCast,List.getD_eq_getElem?_getD,List.getElem?_eq_getElem hj,Option.getD_some] at q'
  exact ⟨sgl[j],by rw [sizeLine_eq];decide+kernel,tZ (List.getElem?_eq_getElem hj),q'⟩
 ·have ef:(List.filter (fun x=>true) (Cr 0 n.toNat)).map (fun v=>match v with|V.int i=>V.str {cps:=#[sgl.getD ((c+i*(1+c / 94 % 93)) % 94).toNat 0]}|v=>v)=(((List.range n.toNat).map fun i:Nat=>sgl.getD ((c+(0+(i:Int))*(1+c / 94 % 93)) % 94).toNat 0).map fun k=>(⟨#[k]⟩:Str)).map V.str:=by
   rw [List.filter_eq_self.mpr (fun _ _=>rfl),Cr,List.map_map,List.map_map,List.map_map]
   rfl
  rw [ef]
  clear ef
  have hm: ∀k∈(List.range n.toNat).map fun i:Nat=>sgl.getD ((c+(0+(i:Int))*(1+c / 94 % 93)) % 94).toNat 0,k∈sgl:=fun k hk=>by
   obtain ⟨i,_,rfl⟩:=List.mem_map.mp hk
   have:=ci i
   rw [Int.zero_add,List.getD_eq_getElem?_getD,List.getElem?_eq_getElem this,Option.getD_some]
   exact List.getElem_mem this
  have hl:((List.range n.toNat).map fun i:Nat=>sgl.getD ((c+(0+(i:Int))*(1+c / 94 % 93)) % 94).toNat 0).length=n.toNat:=by simp
  generalize ((List.range n.toNat).map fun i:Nat=>sgl.getD ((c+(0+(i:Int))*(1+c / 94 % 93)) % 94).toNat 0)=cs at*
  have hj:=join_ones cs
  refine ⟨bh (by rw [List.length_map,List.length_map];omega),fun l nl=>⟨_,bU.of aa,?_,q _ _ (ao nl) ?_ ?_⟩⟩
  ·
   rw [show (Str.ofString "").length=0 from rfl,Nat.mul_zero,Nat.add_zero,List.map_map]
   have:((cs.map ((fun x:Str=>x.length)∘fun k=>(⟨#[k]⟩:Str))).sum)=cs.length:=by
    clear hm hl hj
    induction cs with
    |nil=>rfl
    |cons a l ih=>rw [List.map_cons,List.sum_cons,ih,List.length_cons];show 1+l.length=l.length+1;omega
   rw [this];omega
  ·
   show ((Txt.join (Str.ofString "") (cs.map fun k=>(⟨#[k]⟩:Str))).cps.size:Int)=n
   rw [←Array.length_toList,hj];omega
  ·rw [hj];exact hm
theorem K8: ∀c∈sgl,JQ (.str ⟨#[c]⟩)=true:=by decide+kernel
theorem GW {z:Str} (h1:1≤z.length) (h2:z.length≤60) (h: ∀c∈z.cps.toList,c∈sgl):fB z=true:=by
 unfold fB
 rw [decide_eq_true h1,decide_eq_true h2,Bool.true_and,Bool.true_and,List.all_eq_true]
 intro v hv
 unfold dB at hv
 obtain ⟨c,hc,rfl⟩:=List.mem_map.mp hv
 exact K8 c (h c hc)
theorem pA {a b:Int} {k:Str} {v:V} (ha:0≤a∧a≤400) (hb:0≤b∧b≤1) (h:sI k v=true):cn (a,b,k,v)=true:=by
 unfold cn
 rw [h,Bool.and_true]
 unfold bK
 simp
 omega
include T in theorem sY:FnAt P w K mg base (fA P w) "_law_wish" 2 ["_law_cell"] nQ:=by
 exists 0,T.qh,k9,BU,nQ
 rename_i c
 refine ⟨_,(aH (bo (i:=1) k9.nd rfl (Or.inl rfl) (bg (cF T) HR (by decide) rfl (ax (pv 0) (ax ae aq))))
 (aH (bo (i:=2) k9.nd rfl (Or.inl rfl) (aN bE (aN bF (pv 1) ae) ae))
 (aH (bo (i:=3) k9.nd rfl (Or.inl rfl) (aN bE (pv 1) ae))
 (aH (nA (bR (bq K rfl HR.units) (aN bE (aN bF (pv 1) ae) ae) ae (nomark _)) (aM (ba (cK (ax (pv 2) (ax (pv 3) (ax bc (ax eL aq))))))) c9)
 (aH (nA (bR (bq K rfl HR.units) (aN bE (aN bF (pv 1) ae) ae) ae (nomark _)) (aM (ba (cK (ax (pv 2) (ax (pv 3) (ax bc (ax eL aq))))))) c9)
 (aH (nA (bR (bq K rfl HR.units) (aN bE (aN bF (pv 1) ae) ae) ae (nomark _)) (aM (ba (cK (ax (pv 2) (ax (pv 3) (ax bc (ax (aN (bb K rfl) ae (aN bE (aN bF (pv 1) ae) ae)) aq))))))) c9)
 (aM (ba (cK (ax (pv 2) (ax (pv 3) (ax bc (ax (bg (lg T) HR (by decide) rfl (ax (aN bF (pv 1) ae) (ax (aN (bb K rfl) ae (aN bE (aN bF (pv 1) ae) ae)) aq))) aq))))))))))))),?_⟩
 walk_at "wps"
 intro v v0 v1
 have b1:0≤v / 16 % 401∧v / 16 % 401≤400:=by omega
 have b2:0≤v % 2∧v % 2≤1:=by omega
 have b3:0≤v / 6416 % 60∧v / 6416 % 60<60:=by omega
 split
 ·exact fun p hp=>h p (_,_,Str.ofString "begin",_) _ (ao hp) ⟨aa,.inl rfl⟩ (pA b1 b2 (by decide+kernel))
 split
 ·exact fun p hp=>h p (_,_,Str.ofString "end",_) _ (ao hp) ⟨aa,.inl rfl⟩ (pA b1 b2 (by decide+kernel))
 split
 ·
  refine fun p hp=>h p (_,_,Str.ofString "read",_) _ (ao hp) ⟨aa,.inr (.inl ⟨_,rfl⟩)⟩ (pA b1 b2 ?_)
  unfold sI
  rw [if_neg (by decide+kernel),if_pos rfl]
  unfold bK
  simp
  omega
 refine ⟨by omega,by omega,fun z H' s hl hz p hp=>h p (_,_,Str.ofString "put",_) _ (s.trans (ao hp)) ⟨aa,.inr (.inr ⟨z,rfl,by omega⟩)⟩ (pA b1 b2 ?_)⟩
 unfold sI
 rw [if_pos rfl]
 exact GW (by omega) (by omega) hz
include T in theorem rg:FnAt P w K mg base (fA P w) "_law_deeds" 2 ["_law_cell","_law_lag"] mQ:=by
 exists 0,T.oW,jR,z6,mQ
 rename_i c lag
 refine ⟨_,(aH (bo (i:=2) jR.nd rfl (Or.inl rfl) (bg (cF T) HR (by decide) rfl (ax (pv 0) (ax ae aq))))
 (aH (bo (i:=3) jR.nd rfl (Or.inl rfl) (cw aq))
 (aH (DM PassesOwn.never rfl (qz rfl T.qH (ax (aN bE (pv 2) ae) aq)) (bI (i:=4) jR.nd rfl (Or.inl rfl)) (aM (nB (yg K rfl (pv 3) (cw (ax (cK (ax (aN (bb K rfl) ae (aN bE (aN bF (pv 2) (aN (bb K rfl) ae (pv 4))) (pv 1))) (ax (aN bE (aN bF (pv 2) (aN (bb K rfl) ae (pv 4))) ae) (ax (aN bE (aN bF (pv 2) (aN (bb K rfl) ae (pv 4))) ae) aq)))) aq))))))
 (aM (ba (pv 3)))))),?_⟩
 obtain ⟨hg,q⟩:=h
 walk_at "wps"
 intro v v0 v1 p hp
 refine ⟨by omega,?_⟩
 refine Rh (lo:=0) (n:=(v % 6).toNat) (fun i σ H'=>aW H H'∧∃(xs:List Addr) (dss:List (List Cp)) (v4:Option V),σ= [some (.int c),some (.int lag),some (.int v),some (.ref p),v4]∧H' p=some (.lst (xs.map V.ref))∧Paired (fun x ds=>(x≠p∧H x=none)∧bP H' x ds) xs dss∧dss.length=i∧∀ds∈dss,ds.length=1∧iw lag ds=true) ⟨ao hp,[],[],none,rfl,aa,.nil,rfl,fun _ h=>absurd h List.not_mem_nil⟩ (fun i σ H' hi hh=>?_) (fun σ H' hh=>?_)
 ·
  obtain ⟨sm,xs,dss,v4,rfl,h1,h2,h3,h4⟩:=hh
  have hl:=bz h2
  exists h1
  have g1:=Int.emod_nonneg (v / (6+(0+(i:Int)))) (show lag≠0 by omega)
  have g2:=Int.emod_lt_of_pos (v / (6+(0+(i:Int)))) (show 0<lag by omega)
  have g3:=Int.emod_nonneg (v / (60+(0+(i:Int)))) (show (67:Int)≠0 by decide)
  have g4:=Int.emod_lt_of_pos (v / (60+(0+(i:Int)))) (show (0:Int)<67 by decide)
  have g5:=Int.emod_nonneg (v / (997+(0+(i:Int)))) (show (256:Int)≠0 by decide)
  have g6:=Int.emod_lt_of_pos (v / (997+(0+(i:Int)))) (show (0:Int)<256 by decide)
  generalize v / (6+(0+(i:Int))) % lag=a1 at*
  generalize v / (60+(0+(i:Int))) % 67=a2 at*
  generalize v / (997+(0+(i:Int))) % 256=a3 at*
  refine ⟨sJ (bU.of h1),⟨by omega,by omega⟩,by omega,⟨by omega,by omega⟩,⟨by omega,by omega⟩,fun p1 n1 p2 n2=>?_⟩
  have s1:=ao (o:= .tup [V.int (1+a1),V.int a2,V.int a3]) n1
  have s2:=s1.trans (ao (o:= .lst [V.ref p1]) n2)
  have e1:upd (upd H' p1 (.tup [V.int (1+a1),V.int a2,V.int a3])) p2 (.lst [V.ref p1]) p1=some (.tup [V.int (1+a1),V.int a2,V.int a3]):=ao n2 _ _ aa
  have e2:upd (upd H' p1 (.tup [V.int (1+a1),V.int a2,V.int a3])) p2 (.lst [V.ref p1]) p2=some (.lst [V.ref p1]):=aa
  have np1:p1≠p:=(av h1 n1).symm
  have np2:p2≠p:=(av (s1 _ _ h1) n2).symm
  have f2:H p2=none:=xQ (sm.trans s1) n2
  clear n1 n2 s1
  generalize upd (upd H' p1 (.tup [V.int (1+a1),V.int a2,V.int a3])) p2 (.lst [V.ref p1])=H2 at*
  have B:cm p H2 (upd H2 p (.lst (xs.map V.ref++ [V.ref p2]))):=cm.upd
  refine ⟨_,s2 _ _ h1,by rw [sizeLine_eq,List.length_map];omega,fun b o e=>B _ _ (s2 _ _ (sm _ _ e)) (av e hp),xs++ [p2],dss++ [[(1+a1,a2,a3)]],_,rfl,by rw [List.map_append];rfl,?_,by rw [List.length_append,h3];rfl,?_⟩
  ·
   refine fq (aP h2 fun y ds u=>⟨u.1,?_⟩) ⟨⟨np2,f2⟩,[p1],B _ _ e2 np2,.cons (B _ _ e1 np1) .nil,by simp⟩
   obtain ⟨cs,c1,c2,c3⟩:=u.2
   exact ⟨cs,B _ _ (s2 _ _ c1) u.1.1,aP c2 fun a d w=>B _ _ (s2 _ _ w) (fun z=>by unfold qv at w;rw [z,h1] at w;cases w),c3⟩
  ·
   intro ds hds
   rcases List.mem_append.mp hds with e|e
   ·exact h4 ds e
   ·
    rw [List.mem_singleton.mp e]
    refine ⟨rfl,?_⟩
    simp [iw,mv,bK]
    omega
 ·
  obtain ⟨sm,xs,dss,v4,rfl,h1,h2,h3,h4⟩:=hh
  walk_at "wps"
  exact q p dss H' sm ⟨hp,xs,h1,aP h2 fun x ds u=>⟨u.1.2,u.2⟩,by omega⟩ (by omega) h4
def GQ (H:Hp) (v:V):Prop:= ∃y w,v = .ref y∧C9 H y w∧cn w=false
theorem GQ.same {H H':Hp} {v:V} (h:GQ H v) (s:aW H H'):GQ H' v:=by
 obtain ⟨y,w,e,h1,h2⟩:=h
 exact ⟨y,w,e,h1.same s,h2⟩
theorem bO {a b:Int} {k:Str} {v:V} (h: ¬(0≤a∧a≤400)∨¬(0≤b∧b≤1)∨sI k v=false):cn (a,b,k,v)=false:=by
 unfold cn
 rcases h with h|h|h
 ·simp only [bK];rw [show (decide (0≤a)&&decide (a≤400))=false by simp;omega];rfl
 ·simp only [bK];rw [show (decide (0≤b)&&decide (b≤1))=false by simp;omega];simp
 ·simp only [h,Bool.and_false]
theorem Fo {z:Str} {c:Nat} (h:c∈z.cps.toList) (hb:JQ (.str ⟨#[c]⟩)=false):fB z=false:=by
 unfold fB
 rw [show (dB z).all JQ=false from ?_,Bool.and_false]
 rw [Bool.eq_false_iff]
 intro e
 rw [List.all_eq_true] at e
 have:=e (.str ⟨#[c]⟩) (by unfold dB;exact List.mem_map_of_mem h)
 rw [hb] at this
 cases this
theorem Dd {z:Str} (h:60<z.length):fB z=false:=by
 unfold fB
 rw [show decide (z.length≤60)=false from decide_eq_false (by omega),Bool.and_false,Bool.false_and]
theorem pC (a b:Str):(a++b).length=a.length+b.length:=Array.size_append
def mz (H:Hp) (xs:List V):Prop:= ∀v∈xs,GQ H v
theorem mz.same {H H':Hp} {xs:List V} (h:mz H xs) (s:aW H H'):mz H' xs:=fun v hv=>(h v hv).same s
theorem mz.nil {H:Hp}:mz H []:=fun v hv=>absurd hv List.not_mem_nil
theorem mz.cons {H:Hp} {v:V} {xs:List V} (h:GQ H v) (t:mz H xs):mz H (v::xs):=fun u hu=>by
 rcases List.mem_cons.mp hu with rfl|e
 ·exact h
 ·exact t u e
theorem mz.app {H:Hp} {xs ys:List V} (h:mz H xs) (t:mz H ys):mz H (xs++ys):=fun u hu=>(List.mem_append.mp hu).elim (h u) (t u)
theorem ck {H:Hp} {p:Addr} {w:Ww} (h:H p=some (.tup [.int w.1,.int w.2.1,.str w.2.2.1,w.2.2.2])) (b:bwB w.2.2.2) (f:cn w=false):GQ H (.ref p):=⟨p,w,rfl,⟨h,b⟩,f⟩
theorem rk {k:Str} {v:V} (h1:k≠ "put") (h2:k≠ "read") (h3:k≠ "begin") (h4:k≠ "end"):sI k v=false:=by
 unfold sI
 rw [if_neg h1,if_neg h2,decide_eq_false h3,decide_eq_false h4];rfl
theorem Cf {z:Str} (h:fB z=false):sI (Str.ofString "put") (.str z)=false:=by
 unfold sI;rw [if_pos rfl];exact h
theorem t8 {i:Int} (h: ¬(1≤i∧i≤60)):sI (Str.ofString "read") (.int i)=false:=by
 unfold sI
 rw [if_neg (by decide+kernel),if_pos rfl]
 unfold bK
 simp
 omega
theorem JV {a b:Int} {k:Str} {v:V} (h:cn (a,b,k,v)=true):k = "put" ∨k = "read" ∨k = "begin" ∨k = "end" :=by
 by_cases h1:k = "put"
 ·exact .inl h1
 by_cases h2:k = "read"
 ·exact .inr (.inl h2)
 by_cases h3:k = "begin"
 ·exact .inr (.inr (.inl h3))
 by_cases h4:k = "end"
 ·exact .inr (.inr (.inr h4))
 unfold cn at h
 rw [rk h1 h2 h3 h4,Bool.and_false] at h
 cases h
theorem Pe {k:Str} {v:V} (h:k = "put" ∨k = "read" ∨k = "begin" ∨k = "end"):sI (k++Str.ofString "s") v=false∧k.length≤5:=by
 rcases h with rfl|rfl|rfl|rfl<;>exact ⟨rk (by decide+kernel) (by decide+kernel) (by decide+kernel) (by decide+kernel),by decide+kernel⟩
include T in theorem zy:FnAt P w K mg base (fA P w) "_law_wrong" 2 ["_law_wish_here","_law_cell"] mN:=by
 exists 0,T.oS,bC,zZ,mN
 rename_i x c
 refine ⟨_,(Fl.h (a_ ⟨(KI (pv 0) (Bl K (n:=4) rfl rfl (vY (bI (i:=2) bC.nd rfl (Or.inl rfl)) (vY (bI (i:=3) bC.nd rfl (Or.inl rfl)) (vY (bI (i:=4) bC.nd rfl (Or.inl rfl)) (vY (bI (i:=5) bC.nd rfl (Or.inl rfl)) Bk))))))⟩
 (a_ ⟨(bo (i:=6) bC.nd rfl (Or.inl rfl) (aN bE (aN bF (pv 1) ae) ae))⟩
 (a7 (a_ ⟨(bo (i:=7) bC.nd rfl (Or.inl rfl) (aN (bb K rfl) (aN (bb K rfl) (bg (lg T) HR (by decide) rfl (ax (pv 6) (ax (aN bE (pv 6) ae) aq))) (bL (cV K rfl) (cw (ax bc (ax bc aq))) (aN bE (pv 6) ae) (fun _ _=>rfl))) (bg (lg T) HR (by decide) rfl (ax (pv 6) (ax (aN bE (aN bF (pv 6) ae) ae) aq)))))⟩
 (a7 (a_ (cf (i:=8) bC.nd rfl (Or.inl rfl) (rR (aX (bH (aX ⟨(aN lY (aN lY ae ae) (pv 6))⟩ (aX ⟨(pv 3)⟩ (aX ⟨(pv 4)⟩ (aX ⟨(pv 5)⟩ bw))))) (aX (bH (aX ⟨(aN (bb K rfl) ae (pv 6))⟩ (aX ⟨(pv 3)⟩ (aX ⟨(pv 4)⟩ (aX ⟨(pv 5)⟩ bw))))) (aX (bH (aX ⟨(pv 2)⟩ (aX ⟨(aN (bb K rfl) ae (pv 6))⟩ (aX ⟨(pv 4)⟩ (aX ⟨(pv 5)⟩ bw))))) bw)))))
 (a7 (a_ (cf (i:=8) bC.nd rfl (Or.inl rfl) (Cz (bb K rfl) ⟨(pv 8)⟩ (rR (aX (bH (aX ⟨(pv 2)⟩ (aX ⟨(aN lY (aN lY ae ae) (pv 6))⟩ (aX ⟨(pv 4)⟩ (aX ⟨(pv 5)⟩ bw))))) (aX (bH (aX ⟨(pv 2)⟩ (aX ⟨(pv 3)⟩ (aX ⟨bc⟩ (aX ⟨(pv 5)⟩ bw))))) (aX (bH (aX ⟨(pv 2)⟩ (aX ⟨(pv 3)⟩ (aX ⟨(aN (bb K rfl) (pv 4) bc)⟩ (aX ⟨(pv 5)⟩ bw))))) bw))))))
 (a7 (a_ (cf (i:=8) bC.nd rfl (Or.inl rfl) (Cz (bb K rfl) ⟨(pv 8)⟩ (rR (aX (bH (aX ⟨(pv 2)⟩ (aX ⟨(pv 3)⟩ (aX ⟨bc⟩ (aX ⟨bc⟩ bw))))) (aX (bH (aX ⟨(pv 2)⟩ (aX ⟨(pv 3)⟩ (aX ⟨bc⟩ (aX ⟨(bg (lg T) HR (by decide) rfl (ax (pv 6) (ax (aN (bb K rfl) ae (aN bE (pv 6) ae)) aq)))⟩ bw))))) bw)))))
 (a7 (a_ (cf (i:=8) bC.nd rfl (Or.inl rfl) (Cz (bb K rfl) ⟨(pv 8)⟩ (rR (aX (bH (aX ⟨(pv 2)⟩ (aX ⟨(pv 3)⟩ (aX ⟨bc⟩ (aX ⟨(pv 7)⟩ bw))))) (aX (bH (aX ⟨(pv 2)⟩ (aX ⟨(pv 3)⟩ (aX ⟨bc⟩ (aX ⟨eL⟩ bw))))) (aX (bH (aX ⟨(pv 2)⟩ (aX ⟨(pv 3)⟩ (aX ⟨bc⟩ (aX ⟨bc⟩ bw))))) bw))))))
 (a7 (a_ (cf (i:=8) bC.nd rfl (Or.inl rfl) (Cz (bb K rfl) ⟨(pv 8)⟩ (rR (aX (bH (aX ⟨(pv 2)⟩ (aX ⟨(pv 3)⟩ (aX ⟨bc⟩ (aX ⟨bc⟩ bw))))) (aX (bH (aX ⟨(pv 2)⟩ (aX ⟨(pv 3)⟩ (aX ⟨bc⟩ (aX ⟨ae⟩ bw))))) (aX (bH (aX ⟨(pv 2)⟩ (aX ⟨(pv 3)⟩ (aX ⟨bc⟩ (aX ⟨(aN (bb K rfl) ae (pv 6))⟩ bw))))) bw))))))
 (a7 (a_ (cf (i:=8) bC.nd rfl (Or.inl rfl) (Cz (bb K rfl) ⟨(pv 8)⟩ (rR (aX (bH (aX ⟨(pv 2)⟩ (aX ⟨(pv 3)⟩ (aX ⟨bc⟩ (aX ⟨(aN lY ae (pv 6))⟩ bw))))) (aX (bH (aX ⟨(pv 2)⟩ (aX ⟨(pv 3)⟩ (aX ⟨bc⟩ (aX ⟨eL⟩ bw))))) bw)))))
 (a7 (fL ⟨(ba (bL (cV K rfl) (pv 8) (aN bE (pv 1) ae) (fun _ _=>rfl)))⟩))))))))))))))))))),?_⟩
 obtain ⟨w,hw,wb,hc,q⟩:=h
 obtain ⟨a,b,k,d⟩:=w
 have hw1:=hw.1
 have hd:bwB d:=hw.2
 have ws:=Pe (v:=d) (JV wb)
 have hk5:=ws.2
 exists hw1
 generalize h_u1:aR _=u1
 obtain ⟨far,ef⟩: ∃n,n=c / 16 % 1000:=⟨_,rfl⟩
 rw [←ef]
 have hf:0≤far∧far<1000:=by omega
 clear ef hw1
 rw [←h_u1,aR]
 walk_at "wps"
 generalize h_u2:aR _=u2
 refine ⟨⟨by omega,by omega⟩,⟨by omega,by omega⟩,fun z1 H1 s1 l1 m1 p np=>?_⟩
 obtain ⟨sg,esg,nsg⟩: ∃sg:Nat,sH [V.str (Str.ofString "\n"),V.str (Str.ofString "\t")] (far % 2)=some (.str ⟨#[sg]⟩)∧JQ (.str ⟨#[sg]⟩)=false:=by
  rcases (show far % 2=0∨far % 2=1 by omega) with e|e<;>rw [e]
  ·exact ⟨10,C6,by decide+kernel⟩
  ·exact ⟨9,C5,by decide+kernel⟩
 refine ⟨_,esg,?_⟩
 have sm:=s1.trans (ao (o:=HO.lst [V.str (Str.ofString "\n"),V.str (Str.ofString "\t")]) np)
 generalize upd H1 p (HO.lst [V.str (Str.ofString "\n"),V.str (Str.ofString "\t")])=H2 at*
 walk_at "wps"
 refine ⟨by rw [sizeLine_eq];show z1.length+1≤_;omega,⟨by omega,by omega⟩,⟨by omega,by omega⟩,fun z2 H3 s3 l2 m2=>⟨by rw [sizeLine_eq,pC];show z1.length+1+_≤_;omega,?_⟩⟩
 replace sm:=sm.trans s3
 obtain ⟨tx,etx⟩: ∃z,z=z1++(⟨#[sg]⟩:Str)++z2:=⟨_,rfl⟩
 rw [←etx]
 have t1:fB tx=false:=by
  refine Fo (c:=sg) ?_ nsg
  rw [etx]
  show sg∈((z1.cps ++ #[sg])++z2.cps).toList
  simp
 have t2:tx.length≤1000:=by
  rw [etx,pC,pC]
  show z1.length+1+_≤_
  omega
 clear etx s3 s1 np l1 l2 m1 m2 esg nsg hw wb
 rw [←h_u2,aR]
 walk_at "wps"
 generalize h_u3:aR _=u3
 intro p1 n_p1
 have e_p1:=aa (H:=H3) (a:=p1) (o:=(.tup [.int (-1 - far),.int b,.str k,d]))
 have s_p1:=ao (H:=H3) (o:=(.tup [.int (-1 - far),.int b,.str k,d])) n_p1
 replace sm:=sm.trans s_p1
 generalize upd H3 p1 ((.tup [.int (-1 - far),.int b,.str k,d]))=H4 at*
 have b1:=ck (w:=(-1 - far,b,k,d)) e_p1 hd (bO (.inl (by omega)))
 intro p2 n_p2
 have e_p2:=aa (H:=H4) (a:=p2) (o:=(.tup [.int (401+far),.int b,.str k,d]))
 have s_p2:=ao (H:=H4) (o:=(.tup [.int (401+far),.int b,.str k,d])) n_p2
 replace sm:=sm.trans s_p2
 generalize upd H4 p2 ((.tup [.int (401+far),.int b,.str k,d]))=H5 at*
 replace b1:=b1.same s_p2
 have b2:=ck (w:=(401+far,b,k,d)) e_p2 hd (bO (.inl (by omega)))
 intro p3 n_p3
 have e_p3:=aa (H:=H5) (a:=p3) (o:=(.tup [.int a,.int (2+far),.str k,d]))
 have s_p3:=ao (H:=H5) (o:=(.tup [.int a,.int (2+far),.str k,d])) n_p3
 replace sm:=sm.trans s_p3
 generalize upd H5 p3 ((.tup [.int a,.int (2+far),.str k,d]))=H6 at*
 replace b1:=b1.same s_p3
 replace b2:=b2.same s_p3
 have b3:=ck (w:=(a,2+far,k,d)) e_p3 hd (bO (.inr (.inl (by omega))))
 intro l n_l
 have e_l:=aa (H:=H6) (a:=l) (o:=(.lst [.ref p1,.ref p2,.ref p3]))
 have s_l:=ao (H:=H6) (o:=(.lst [.ref p1,.ref p2,.ref p3])) n_l
 replace sm:=sm.trans s_l
 generalize upd H6 l ((.lst [.ref p1,.ref p2,.ref p3]))=H7 at*
 have bl:=((mz.nil.cons b3).cons b2).cons b1 |>.same s_l
 obtain ⟨xs,ex⟩: ∃xs,xs= [V.ref p1,V.ref p2,V.ref p3]:=⟨_,rfl⟩
 rw [←ex] at e_l bl
 have xl:xs.length=3:=by rw [ex];rfl
 clear ex b1 b2 b3 e_p1 e_p2 e_p3 s_p1 s_p2 s_p3 s_l n_p1 n_p2 n_p3 n_l H3 H4 H5 H6
 rw [←h_u3,aR]
 walk_at "wps"
 generalize h_u4:aR _=u4
 intro p00 n_p00
 have e_p00:=aa (H:=H7) (a:=p00) (o:=(.tup [.int (a),.int (-1 - far),.str (k),d]))
 have s_p00:=ao (H:=H7) (o:=(.tup [.int (a),.int (-1 - far),.str (k),d])) n_p00
 replace e_l:=s_p00 _ _ e_l
 replace sm:=sm.trans s_p00
 generalize upd H7 p00 ((.tup [.int (a),.int (-1 - far),.str (k),d]))=H8 at*
 replace bl:=bl.same s_p00
 have bp00:=ck (w:=(a,-1 - far,k,d)) e_p00 (hd) (bO (.inr (.inl (by omega))))
 intro p01 n_p01
 have e_p01:=aa (H:=H8) (a:=p01) (o:=(.tup [.int (a),.int (b),.str (Str.ofString ""),d]))
 have s_p01:=ao (H:=H8) (o:=(.tup [.int (a),.int (b),.str (Str.ofString ""),d])) n_p01
 replace e_l:=s_p01 _ _ e_l
 replace sm:=sm.trans s_p01
 generalize upd H8 p01 ((.tup [.int (a),.int (b),.str (Str.ofString ""),d]))=H9 at*
 replace bl:=bl.same s_p01
 replace bp00:=bp00.same s_p01
 have bp01:=ck (w:=(a,b,Str.ofString "",d)) e_p01 (hd) (bO (.inr (.inr (rk (by decide+kernel) (by decide+kernel) (by decide+kernel) (by decide+kernel)))))
 refine ⟨by rw [sizeLine_eq];show _+1≤_;omega,?_⟩
 intro p02 n_p02
 have e_p02:=aa (H:=H9) (a:=p02) (o:=(.tup [.int (a),.int (b),.str (k++Str.ofString "s"),d]))
 have s_p02:=ao (H:=H9) (o:=(.tup [.int (a),.int (b),.str (k++Str.ofString "s"),d])) n_p02
 replace e_l:=s_p02 _ _ e_l
 replace sm:=sm.trans s_p02
 generalize upd H9 p02 ((.tup [.int (a),.int (b),.str (k++Str.ofString "s"),d]))=H10 at*
 replace bl:=bl.same s_p02
 replace bp00:=bp00.same s_p02
 replace bp01:=bp01.same s_p02
 have bp02:=ck (w:=(a,b,k++Str.ofString "s",d)) e_p02 (hd) (bO (.inr (.inr ws.1)))
 intro m0 n_m0
 have e_m0:=aa (H:=H10) (a:=m0) (o:=(.lst [.ref p00,.ref p01,.ref p02]))
 have s_m0:=ao (H:=H10) (o:=(.lst [.ref p00,.ref p01,.ref p02])) n_m0
 replace e_l:=s_m0 _ _ e_l
 replace sm:=sm.trans s_m0
 generalize upd H10 m0 ((.lst [.ref p00,.ref p01,.ref p02]))=H11 at*
 replace bl:=bl.same s_m0
 have bm:=(((mz.nil).cons (bp02.same s_m0)).cons (bp01.same s_m0)).cons (bp00.same s_m0)
 refine fo e_l e_m0 (by rw [xl,sizeLine_eq];simp) ?_
 intro r n_r
 have e_r:=aa (H:=H11) (a:=r) (o:=(.lst (xs++ [.ref p00,.ref p01,.ref p02])))
 have s_r:=ao (H:=H11) (o:=(.lst (xs++ [.ref p00,.ref p01,.ref p02]))) n_r
 replace sm:=sm.trans s_r
 generalize upd H11 r ((.lst (xs++ [.ref p00,.ref p01,.ref p02])))=H12 at*
 have br:=(bl.app bm).same s_r
 obtain ⟨ys,ey⟩: ∃ys,ys=xs++ [V.ref p00,V.ref p01,V.ref p02]:=⟨_,rfl⟩
 rw [←ey] at e_r br
 have yl:ys.length=6:=by rw [ey,List.length_append,xl];rfl
 clear ey bl bm e_l xl s_r n_r s_m0 n_m0 e_m0 bp00 e_p00 s_p00 n_p00 bp01 e_p01 s_p01 n_p01 bp02 e_p02 s_p02 n_p02
 clear xs l
 obtain ⟨l,xs,e_l,bl,xl,er⟩: ∃l xs,H12 l=some (.lst xs)∧mz H12 xs∧xs.length=6∧l=r:=⟨r,ys,e_r,br,yl,rfl⟩
 subst er
 clear e_r br yl
 clear ys
 rw [←h_u4,aR]
 walk_at "wps"
 generalize h_u5:aR _=u5
 intro p10 n_p10
 have e_p10:=aa (H:=H12) (a:=p10) (o:=(.tup [.int (a),.int (b),.str (Str.ofString "put"),.str (Str.ofString "")]))
 have s_p10:=ao (H:=H12) (o:=(.tup [.int (a),.int (b),.str (Str.ofString "put"),.str (Str.ofString "")])) n_p10
 replace e_l:=s_p10 _ _ e_l
 replace sm:=sm.trans s_p10
 generalize upd H12 p10 ((.tup [.int (a),.int (b),.str (Str.ofString "put"),.str (Str.ofString "")]))=H13 at*
 replace bl:=bl.same s_p10
 have bp10:=ck (w:=(a,b,Str.ofString "put",.str (Str.ofString ""))) e_p10 (.inr (.inr ⟨_,rfl,by decide+kernel⟩)) (bO (.inr (.inr (by decide+kernel))))
 refine ⟨by omega,⟨by omega,by omega⟩,fun z9 H14 s9 l9 _=>?_⟩
 replace sm:=sm.trans s9
 replace e_l:=s9 _ _ e_l
 replace bl:=bl.same s9
 replace bp10:=bp10.same s9
 intro p11 n_p11
 have e_p11:=aa (H:=H14) (a:=p11) (o:=(.tup [.int (a),.int (b),.str (Str.ofString "put"),.str z9]))
 have s_p11:=ao (H:=H14) (o:=(.tup [.int (a),.int (b),.str (Str.ofString "put"),.str z9])) n_p11
 replace e_l:=s_p11 _ _ e_l
 replace sm:=sm.trans s_p11
 generalize upd H14 p11 ((.tup [.int (a),.int (b),.str (Str.ofString "put"),.str z9]))=H15 at*
 replace bl:=bl.same s_p11
 replace bp10:=bp10.same s_p11
 have bp11:=ck (w:=(a,b,Str.ofString "put",.str z9)) e_p11 (.inr (.inr ⟨_,rfl,by omega⟩)) (bO (.inr (.inr (Cf (Dd (by omega))))))
 intro m1 n_m1
 have e_m1:=aa (H:=H15) (a:=m1) (o:=(.lst [.ref p10,.ref p11]))
 have s_m1:=ao (H:=H15) (o:=(.lst [.ref p10,.ref p11])) n_m1
 replace e_l:=s_m1 _ _ e_l
 replace sm:=sm.trans s_m1
 generalize upd H15 m1 ((.lst [.ref p10,.ref p11]))=H16 at*
 replace bl:=bl.same s_m1
 have bm:=((mz.nil).cons (bp11.same s_m1)).cons (bp10.same s_m1)
 refine fo e_l e_m1 (by rw [xl,sizeLine_eq];simp) ?_
 intro r n_r
 have e_r:=aa (H:=H16) (a:=r) (o:=(.lst (xs++ [.ref p10,.ref p11])))
 have s_r:=ao (H:=H16) (o:=(.lst (xs++ [.ref p10,.ref p11]))) n_r
 replace sm:=sm.trans s_r
 generalize upd H16 r ((.lst (xs++ [.ref p10,.ref p11])))=H17 at*
 have br:=(bl.app bm).same s_r
 obtain ⟨ys,ey⟩: ∃ys,ys=xs++ [V.ref p10,V.ref p11]:=⟨_,rfl⟩
 rw [←ey] at e_r br
 have yl:ys.length=8:=by rw [ey,List.length_append,xl];rfl
 clear ey bl bm e_l xl s_r n_r s_m1 n_m1 e_m1 bp10 e_p10 s_p10 n_p10 bp11 e_p11 s_p11 n_p11
 clear xs l
 obtain ⟨l,xs,e_l,bl,xl,er⟩: ∃l xs,H17 l=some (.lst xs)∧mz H17 xs∧xs.length=8∧l=r:=⟨r,ys,e_r,br,yl,rfl⟩
 subst er
 clear e_r br yl
 clear ys
 rw [←h_u5,aR]
 walk_at "wps"
 generalize h_u6:aR _=u6
 intro p20 n_p20
 have e_p20:=aa (H:=H17) (a:=p20) (o:=(.tup [.int (a),.int (b),.str (Str.ofString "put"),.str tx]))
 have s_p20:=ao (H:=H17) (o:=(.tup [.int (a),.int (b),.str (Str.ofString "put"),.str tx])) n_p20
 replace e_l:=s_p20 _ _ e_l
 replace sm:=sm.trans s_p20
 generalize upd H17 p20 ((.tup [.int (a),.int (b),.str (Str.ofString "put"),.str tx]))=H18 at*
 replace bl:=bl.same s_p20
 have bp20:=ck (w:=(a,b,Str.ofString "put",.str tx)) e_p20 (.inr (.inr ⟨_,rfl,t2⟩)) (bO (.inr (.inr (Cf t1))))
 intro p21 n_p21
 have e_p21:=aa (H:=H18) (a:=p21) (o:=(.tup [.int (a),.int (b),.str (Str.ofString "put"),.non]))
 have s_p21:=ao (H:=H18) (o:=(.tup [.int (a),.int (b),.str (Str.ofString "put"),.non])) n_p21
 replace e_l:=s_p21 _ _ e_l
 replace sm:=sm.trans s_p21
 generalize upd H18 p21 ((.tup [.int (a),.int (b),.str (Str.ofString "put"),.non]))=H19 at*
 replace bl:=bl.same s_p21
 replace bp20:=bp20.same s_p21
 have bp21:=ck (w:=(a,b,Str.ofString "put",.non)) e_p21 (.inl rfl) (bO (.inr (.inr (by decide+kernel))))
 intro p22 n_p22
 have e_p22:=aa (H:=H19) (a:=p22) (o:=(.tup [.int (a),.int (b),.str (Str.ofString "begin"),.str (Str.ofString "a")]))
 have s_p22:=ao (H:=H19) (o:=(.tup [.int (a),.int (b),.str (Str.ofString "begin"),.str (Str.ofString "a")])) n_p22
 replace e_l:=s_p22 _ _ e_l
 replace sm:=sm.trans s_p22
 generalize upd H19 p22 ((.tup [.int (a),.int (b),.str (Str.ofString "begin"),.str (Str.ofString "a")]))=H20 at*
 replace bl:=bl.same s_p22
 replace bp20:=bp20.same s_p22
 replace bp21:=bp21.same s_p22
 have bp22:=ck (w:=(a,b,Str.ofString "begin",.str (Str.ofString "a"))) e_p22 (.inr (.inr ⟨_,rfl,by decide+kernel⟩)) (bO (.inr (.inr (by decide+kernel))))
 intro m2 n_m2
 have e_m2:=aa (H:=H20) (a:=m2) (o:=(.lst [.ref p20,.ref p21,.ref p22]))
 have s_m2:=ao (H:=H20) (o:=(.lst [.ref p20,.ref p21,.ref p22])) n_m2
 replace e_l:=s_m2 _ _ e_l
 replace sm:=sm.trans s_m2
 generalize upd H20 m2 ((.lst [.ref p20,.ref p21,.ref p22]))=H21 at*
 replace bl:=bl.same s_m2
 have bm:=(((mz.nil).cons (bp22.same s_m2)).cons (bp21.same s_m2)).cons (bp20.same s_m2)
 refine fo e_l e_m2 (by rw [xl,sizeLine_eq];simp) ?_
 intro r n_r
 have e_r:=aa (H:=H21) (a:=r) (o:=(.lst (xs++ [.ref p20,.ref p21,.ref p22])))
 have s_r:=ao (H:=H21) (o:=(.lst (xs++ [.ref p20,.ref p21,.ref p22]))) n_r
 replace sm:=sm.trans s_r
 generalize upd H21 r ((.lst (xs++ [.ref p20,.ref p21,.ref p22])))=H22 at*
 have br:=(bl.app bm).same s_r
 obtain ⟨ys,ey⟩: ∃ys,ys=xs++ [V.ref p20,V.ref p21,V.ref p22]:=⟨_,rfl⟩
 rw [←ey] at e_r br
 have yl:ys.length=11:=by rw [ey,List.length_append,xl];rfl
 clear ey bl bm e_l xl s_r n_r s_m2 n_m2 e_m2 bp20 e_p20 s_p20 n_p20 bp21 e_p21 s_p21 n_p21 bp22 e_p22 s_p22 n_p22
 clear xs l
 obtain ⟨l,xs,e_l,bl,xl,er⟩: ∃l xs,H22 l=some (.lst xs)∧mz H22 xs∧xs.length=11∧l=r:=⟨r,ys,e_r,br,yl,rfl⟩
 subst er
 clear e_r br yl
 clear ys
 rw [←h_u6,aR]
 walk_at "wps"
 generalize h_u7:aR _=u7
 intro p30 n_p30
 have e_p30:=aa (H:=H22) (a:=p30) (o:=(.tup [.int (a),.int (b),.str (Str.ofString "end"),.str (Str.ofString "b")]))
 have s_p30:=ao (H:=H22) (o:=(.tup [.int (a),.int (b),.str (Str.ofString "end"),.str (Str.ofString "b")])) n_p30
 replace e_l:=s_p30 _ _ e_l
 replace sm:=sm.trans s_p30
 generalize upd H22 p30 ((.tup [.int (a),.int (b),.str (Str.ofString "end"),.str (Str.ofString "b")]))=H23 at*
 replace bl:=bl.same s_p30
 have bp30:=ck (w:=(a,b,Str.ofString "end",.str (Str.ofString "b"))) e_p30 (.inr (.inr ⟨_,rfl,by decide+kernel⟩)) (bO (.inr (.inr (by decide+kernel))))
 intro p31 n_p31
 have e_p31:=aa (H:=H23) (a:=p31) (o:=(.tup [.int (a),.int (b),.str (Str.ofString "read"),.int 0]))
 have s_p31:=ao (H:=H23) (o:=(.tup [.int (a),.int (b),.str (Str.ofString "read"),.int 0])) n_p31
 replace e_l:=s_p31 _ _ e_l
 replace sm:=sm.trans s_p31
 generalize upd H23 p31 ((.tup [.int (a),.int (b),.str (Str.ofString "read"),.int 0]))=H24 at*
 replace bl:=bl.same s_p31
 replace bp30:=bp30.same s_p31
 have bp31:=ck (w:=(a,b,Str.ofString "read",.int 0)) e_p31 (.inr (.inl ⟨_,rfl⟩)) (bO (.inr (.inr (t8 (by omega)))))
 intro p32 n_p32
 have e_p32:=aa (H:=H24) (a:=p32) (o:=(.tup [.int (a),.int (b),.str (Str.ofString "read"),.int (61+far)]))
 have s_p32:=ao (H:=H24) (o:=(.tup [.int (a),.int (b),.str (Str.ofString "read"),.int (61+far)])) n_p32
 replace e_l:=s_p32 _ _ e_l
 replace sm:=sm.trans s_p32
 generalize upd H24 p32 ((.tup [.int (a),.int (b),.str (Str.ofString "read"),.int (61+far)]))=H25 at*
 replace bl:=bl.same s_p32
 replace bp30:=bp30.same s_p32
 replace bp31:=bp31.same s_p32
 have bp32:=ck (w:=(a,b,Str.ofString "read",.int (61+far))) e_p32 (.inr (.inl ⟨_,rfl⟩)) (bO (.inr (.inr (t8 (by omega)))))
 intro m3 n_m3
 have e_m3:=aa (H:=H25) (a:=m3) (o:=(.lst [.ref p30,.ref p31,.ref p32]))
 have s_m3:=ao (H:=H25) (o:=(.lst [.ref p30,.ref p31,.ref p32])) n_m3
 replace e_l:=s_m3 _ _ e_l
 replace sm:=sm.trans s_m3
 generalize upd H25 m3 ((.lst [.ref p30,.ref p31,.ref p32]))=H26 at*
 replace bl:=bl.same s_m3
 have bm:=(((mz.nil).cons (bp32.same s_m3)).cons (bp31.same s_m3)).cons (bp30.same s_m3)
 refine fo e_l e_m3 (by rw [xl,sizeLine_eq];simp) ?_
 intro r n_r
 have e_r:=aa (H:=H26) (a:=r) (o:=(.lst (xs++ [.ref p30,.ref p31,.ref p32])))
 have s_r:=ao (H:=H26) (o:=(.lst (xs++ [.ref p30,.ref p31,.ref p32]))) n_r
 replace sm:=sm.trans s_r
 generalize upd H26 r ((.lst (xs++ [.ref p30,.ref p31,.ref p32])))=H27 at*
 have br:=(bl.app bm).same s_r
 obtain ⟨ys,ey⟩: ∃ys,ys=xs++ [V.ref p30,V.ref p31,V.ref p32]:=⟨_,rfl⟩
 rw [←ey] at e_r br
 have yl:ys.length=14:=by rw [ey,List.length_append,xl];rfl
 clear ey bl bm e_l xl s_r n_r s_m3 n_m3 e_m3 bp30 e_p30 s_p30 n_p30 bp31 e_p31 s_p31 n_p31 bp32 e_p32 s_p32 n_p32
 clear xs l
 obtain ⟨l,xs,e_l,bl,xl,er⟩: ∃l xs,H27 l=some (.lst xs)∧mz H27 xs∧xs.length=14∧l=r:=⟨r,ys,e_r,br,yl,rfl⟩
 subst er
 clear e_r br yl
 clear ys
 rw [←h_u7,aR]
 walk_at "wps"
 generalize h_u8:aR _=u8
 intro p40 n_p40
 have e_p40:=aa (H:=H27) (a:=p40) (o:=(.tup [.int (a),.int (b),.str (Str.ofString "read"),.int (0 - far)]))
 have s_p40:=ao (H:=H27) (o:=(.tup [.int (a),.int (b),.str (Str.ofString "read"),.int (0 - far)])) n_p40
 replace e_l:=s_p40 _ _ e_l
 replace sm:=sm.trans s_p40
 generalize upd H27 p40 ((.tup [.int (a),.int (b),.str (Str.ofString "read"),.int (0 - far)]))=H28 at*
 replace bl:=bl.same s_p40
 have bp40:=ck (w:=(a,b,Str.ofString "read",.int (0 - far))) e_p40 (.inr (.inl ⟨_,rfl⟩)) (bO (.inr (.inr (t8 (by omega)))))
 intro p41 n_p41
 have e_p41:=aa (H:=H28) (a:=p41) (o:=(.tup [.int (a),.int (b),.str (Str.ofString "read"),.non]))
 have s_p41:=ao (H:=H28) (o:=(.tup [.int (a),.int (b),.str (Str.ofString "read"),.non])) n_p41
 replace e_l:=s_p41 _ _ e_l
 replace sm:=sm.trans s_p41
 generalize upd H28 p41 ((.tup [.int (a),.int (b),.str (Str.ofString "read"),.non]))=H29 at*
 replace bl:=bl.same s_p41
 replace bp40:=bp40.same s_p41
 have bp41:=ck (w:=(a,b,Str.ofString "read",.non)) e_p41 (.inl rfl) (bO (.inr (.inr (by decide+kernel))))
 intro m4 n_m4
 have e_m4:=aa (H:=H29) (a:=m4) (o:=(.lst [.ref p40,.ref p41]))
 have s_m4:=ao (H:=H29) (o:=(.lst [.ref p40,.ref p41])) n_m4
 replace e_l:=s_m4 _ _ e_l
 replace sm:=sm.trans s_m4
 generalize upd H29 m4 ((.lst [.ref p40,.ref p41]))=H30 at*
 replace bl:=bl.same s_m4
 have bm:=((mz.nil).cons (bp41.same s_m4)).cons (bp40.same s_m4)
 refine fo e_l e_m4 (by rw [xl,sizeLine_eq];simp) ?_
 intro r n_r
 have e_r:=aa (H:=H30) (a:=r) (o:=(.lst (xs++ [.ref p40,.ref p41])))
 have s_r:=ao (H:=H30) (o:=(.lst (xs++ [.ref p40,.ref p41]))) n_r
 replace sm:=sm.trans s_r
 generalize upd H30 r ((.lst (xs++ [.ref p40,.ref p41])))=H31 at*
 have br:=(bl.app bm).same s_r
 obtain ⟨ys,ey⟩: ∃ys,ys=xs++ [V.ref p40,V.ref p41]:=⟨_,rfl⟩
 rw [←ey] at e_r br
 have yl:ys.length=16:=by rw [ey,List.length_append,xl];rfl
 clear ey bl bm e_l xl s_r n_r s_m4 n_m4 e_m4 bp40 e_p40 s_p40 n_p40 bp41 e_p41 s_p41 n_p41
 clear xs l
 obtain ⟨l,xs,e_l,bl,xl,er⟩: ∃l xs,H31 l=some (.lst xs)∧mz H31 xs∧xs.length=16∧l=r:=⟨r,ys,e_r,br,yl,rfl⟩
 subst er
 clear e_r br yl
 clear ys
 rw [←h_u8,aR]
 exists e_l
 obtain ⟨j,ej,hj⟩: ∃j:Nat,c % 16=(j:Int)∧j<xs.length:=⟨(c % 16).toNat,by omega,by rw [xl];omega⟩
 rw [ej]
 obtain ⟨y,w',ey,h1,h2⟩:=bl xs[j] (List.getElem_mem hj)
 exact ⟨_,tZ (List.getElem?_eq_getElem hj),by rw [ey];exact q y w' _ sm h1 h2⟩
def JO (lag:Int) (H:Hp) (v:V):Prop:= ∃(y:Addr) (d:Cp),v = .ref y∧qv H y d.1 d.2.1 d.2.2∧mv d.1 d.2.1 d.2.2 lag=false
theorem JO.same {lag:Int} {H H':Hp} {v:V} (h:JO lag H v) (s:aW H H'):JO lag H' v:=by
 obtain ⟨y,d,e,h1,h2⟩:=h
 exact ⟨y,d,e,s _ _ h1,h2⟩
theorem qG {lag:Int} {H:Hp} {y:Addr} {d p r:Int} (h:H y=some (.tup [.int d,.int p,.int r])) (f:mv d p r lag=false):JO lag H (.ref y):=⟨y,(d,p,r),rfl,h,f⟩
theorem lD {d p r lag:Int} (h: ¬(1≤d∧d≤lag)∨¬(0≤p∧p≤66)∨¬(0≤r∧r≤255)):mv d p r lag=false:=by
 unfold mv
 rcases h with h|h|h
 ·rw [qC h];rfl
 ·rw [qC h,Bool.and_false];rfl
 ·rw [qC h,Bool.and_false]
theorem oy {α β:Type} {R:α→β→Prop} {xs:List α} {ys:List β} (p:Paired R xs ys): ∀x∈xs,∃y,R x y:=by
 induction p with
 |nil=>exact fun x h=>absurd h List.not_mem_nil
 |cons r _ ih=>exact fun x h=>(List.mem_cons.mp h).elim (fun e=>⟨_,e▸r⟩) (ih x)
theorem DQ {α β:Type} {R:α→β→Prop} {P:α→Prop} {xs:List α} {ys:List β} (p:Paired R xs ys) (h: ∀x∈xs,P x):Paired (fun x y=>P x∧R x y) xs ys:=by
 induction p with
 |nil=>exact .nil
 |cons r _ ih=>exact .cons ⟨h _ List.mem_cons_self,r⟩ (ih fun x hx=>h x (List.mem_cons_of_mem _ hx))
theorem oA {α β:Type} {R:α→β→Prop} {xs xs':List α} {ys ys':List β} (p:Paired R xs ys) (p':Paired R xs' ys'):Paired R (xs++xs') (ys++ys'):=by
 induction p with
 |nil=>exact p'
 |cons r _ ih=>exact .cons r ih
theorem vZ {α β:Type} {R:α→β→Prop} {xs:List α} {ys:List β} (p:Paired R xs ys) (i:Nat):Paired R (xs.take i) (ys.take i):=by
 induction p generalizing i with
 |nil=>rw [List.take_nil,List.take_nil];exact .nil
 |cons r _ ih=>cases i with
  |zero=>exact .nil
  |succ i=>exact .cons r (ih i)
theorem v_ {α β:Type} {R:α→β→Prop} {xs:List α} {ys:List β} (p:Paired R xs ys) (i:Nat):Paired R (xs.drop i) (ys.drop i):=by
 induction p generalizing i with
 |nil=>rw [List.drop_nil,List.drop_nil];exact .nil
 |cons r t ih=>cases i with
  |zero=>exact .cons r t
  |succ i=>exact ih i
theorem Hb {H:Hp} {p:Addr} {xs:List Addr} {dss:List (List Cp)} (hp:H p=some (.lst (xs.map V.ref))) (hD:Paired (bP H) xs dss): ∀x∈xs,x≠p:=by
 rintro x hx rfl
 obtain ⟨ds,cs,h1,h2,_⟩:=oy hD x hx
 rw [hp] at h1
 injection h1 with e
 injection e with e
 have hc:x∈cs:=by
  have:V.ref x∈cs.map V.ref:=e▸List.mem_map_of_mem hx
  obtain ⟨y,hy,ey⟩:=List.mem_map.mp this
  cases ey;exact hy
 obtain ⟨d,hd⟩:=oy h2 x hc
 unfold qv at hd
 rw [hp] at hd
 cases hd
theorem bP.afF {H H':Hp} {p x:Addr} {ds:List Cp} {zs:List V} (h:bP H x ds) (b:cm p H H') (ne:x≠p) (hp:H p=some (.lst zs)):bP H' x ds:=by
 obtain ⟨cs,c1,c2,c3⟩:=h
 exact ⟨cs,b _ _ c1 ne,aP c2 fun c d w=>b _ _ w (fun z=>by unfold qv at w;rw [z,hp] at w;cases w),c3⟩
theorem xI {H H':Hp} {p:Addr} {xs:List Addr} {dss:List (List Cp)} {zs:List V} (hD:Paired (bP H) xs dss) (b:cm p H H') (ne: ∀x∈xs,x≠p) (hp:H p=some (.lst zs)):Paired (bP H') xs dss:=
 aP (DQ hD ne) fun x ds u=>u.2.afF b u.1 hp
theorem J7 {α:Type} (n:Nat) (v:α):(List.replicate n [v]).flatten=List.replicate n v:=by
 induction n with
 |zero=>rfl
 |succ n ih=>rw [List.replicate_succ,List.flatten_cons,ih,List.replicate_succ];rfl
theorem DP {α β:Type} {R:α→β→Prop} {x:α} {y:β} (n:Nat) (r:R x y):Paired R (List.replicate n x) (List.replicate n y):=by
 induction n with
 |zero=>exact .nil
 |succ n ih=>exact .cons r ih
theorem GG {lag:Int} {ds:List Cp} {d:Cp} (h:mv d.1 d.2.1 d.2.2 lag=false):iw lag (ds++ [d])=false:=by
 unfold iw
 rw [List.all_append,List.all_cons,h,Bool.false_and,Bool.and_false,Bool.and_false]
theorem BJ {lag:Int} {dss:List (List Cp)} {b:List Cp} {i:Nat} (hi:i≤dss.length) (ok:lV lag dss) (hb:iw lag b=false):cY lag (dss.take i++b::dss.drop i) i:=by
 have e:(dss.take i).length=i:=by rw [List.length_take];omega
 refine ⟨⟨b,?_,hb⟩,fun j hj ds h=>?_⟩
 ·rw [List.getElem?_append_right (by omega),e,Nat.sub_self];rfl
 ·
  rw [List.getElem?_append_left (by omega)] at h
  exact ok ds (List.mem_of_mem_take (List.mem_of_getElem? h))
theorem BK {lag:Int} {dss es:List (List Cp)} {i:Nat} (h:cY lag dss i):cY lag (dss++es) i:=by
 obtain ⟨⟨b,h1,h2⟩,h3⟩:=h
 have hi:i<dss.length:=(List.getElem?_eq_some_iff.mp h1).1
 exact ⟨⟨b,by rw [List.getElem?_append_left hi];exact h1,h2⟩,fun j hj ds h=>h3 j hj ds (by rw [List.getElem?_append_left (by omega)] at h;exact h)⟩
include T in theorem rf:FnAt P w K mg base (fA P w) "_law_spoil" 1 ["_law_deeds_here","_law_cell","_law_lag"] mO:=by
 exists 0,T.oU,mU,z4,mO
 rename_i p c lag
 refine ⟨_,(Fl.h (a_ (cf (i:=3) mU.nd rfl (Or.inl rfl) (rR (aX (bH (aX ⟨ae⟩ (aX ⟨ae⟩ (aX ⟨ae⟩ bw)))) (aX (bH (aX ⟨(aN (bb K rfl) (pv 2) ae)⟩ (aX ⟨ae⟩ (aX ⟨ae⟩ bw)))) (aX (bH (aX ⟨ae⟩ (aX ⟨ae⟩ (aX ⟨ae⟩ bw)))) (aX (bH (aX ⟨ae⟩ (aX ⟨(aN lY ae ae)⟩ (aX ⟨ae⟩ bw)))) (aX (bH (aX ⟨ae⟩ (aX ⟨ae⟩ (aX ⟨ae⟩ bw)))) (aX (bH (aX ⟨ae⟩ (aX ⟨ae⟩ (aX ⟨(aN lY ae ae)⟩ bw)))) bw))))))))
 (a7 (a_ ⟨(bo (i:=4) mU.nd rfl (Or.inl rfl) (aN bE (aN bF (pv 1) ae) (aN (bb K rfl) (aV (dq K rfl) (by rfl) T.k6 iA (ax (pv 0) aq)) ae)))⟩
 (a7 (a_ ⟨(nB (ES PySem.F.plainAttrs_list PySem.F.slot_list_insert PySem.F.type_list_insert Ar (pv 0) (ax (pv 4) (ax (aN (bb K rfl) (aN Qg (cw (ax (cK (ax ae (ax ae (ax ae aq)))) aq)) (aN bE (aN bF (pv 1) ae) ae)) (cw (ax (bL (cV K rfl) (pv 3) (aN bE (pv 1) ae) (fun _ _=>rfl)) aq))) aq))))⟩
 (a7 (a_ (yd (bR (bq K rfl HR.units) (aN bE (aN bF (pv 1) ae) ae) ae (nomark _)) (fL ⟨(nB (yg K rfl (pv 0) (cw (ax (cK (ax (aN (bb K rfl) (aN (bb K rfl) (pv 2) ae) (aN bE (aN bF (pv 1) ae) ae)) (ax ae (ax ae aq)))) aq))))⟩) ot)
 (a7 (fL ⟨(ba (pv 4))⟩)))))))))),?_⟩
 obtain ⟨hc,hg,dss,xs,hp,hD,hl,hok,q⟩:=h
 walk_at "wps"
 generalize h_u1:aR _=u1
 have sm:aW H H:=fun _ _ e=>e
 intro p1 n_p1
 have e_p1:=aa (H:=H) (a:=p1) (o:=(.tup [.int (0),.int (0),.int (0)]))
 have s_p1:=ao (H:=H) (o:=(.tup [.int (0),.int (0),.int (0)])) n_p1
 replace sm:=sm.trans s_p1
 generalize upd H p1 ((.tup [.int (0),.int (0),.int (0)]))=H1 at*
 have b1:=qG (lag:=lag) e_p1 (lD (.inl (by omega)))
 intro p2 n_p2
 have e_p2:=aa (H:=H1) (a:=p2) (o:=(.tup [.int (lag+1),.int (3),.int (0)]))
 have s_p2:=ao (H:=H1) (o:=(.tup [.int (lag+1),.int (3),.int (0)])) n_p2
 replace sm:=sm.trans s_p2
 generalize upd H1 p2 ((.tup [.int (lag+1),.int (3),.int (0)]))=H2 at*
 replace b1:=b1.same s_p2
 have b2:=qG (lag:=lag) e_p2 (lD (.inl (by omega)))
 intro p3 n_p3
 have e_p3:=aa (H:=H2) (a:=p3) (o:=(.tup [.int (1),.int (67),.int (9)]))
 have s_p3:=ao (H:=H2) (o:=(.tup [.int (1),.int (67),.int (9)])) n_p3
 replace sm:=sm.trans s_p3
 generalize upd H2 p3 ((.tup [.int (1),.int (67),.int (9)]))=H3 at*
 replace b1:=b1.same s_p3
 replace b2:=b2.same s_p3
 have b3:=qG (lag:=lag) e_p3 (lD (.inr (.inl (by omega))))
 intro p4 n_p4
 have e_p4:=aa (H:=H3) (a:=p4) (o:=(.tup [.int (1),.int (-1),.int (9)]))
 have s_p4:=ao (H:=H3) (o:=(.tup [.int (1),.int (-1),.int (9)])) n_p4
 replace sm:=sm.trans s_p4
 generalize upd H3 p4 ((.tup [.int (1),.int (-1),.int (9)]))=H4 at*
 replace b1:=b1.same s_p4
 replace b2:=b2.same s_p4
 replace b3:=b3.same s_p4
 have b4:=qG (lag:=lag) e_p4 (lD (.inr (.inl (by omega))))
 intro p5 n_p5
 have e_p5:=aa (H:=H4) (a:=p5) (o:=(.tup [.int (1),.int (5),.int (256)]))
 have s_p5:=ao (H:=H4) (o:=(.tup [.int (1),.int (5),.int (256)])) n_p5
 replace sm:=sm.trans s_p5
 generalize upd H4 p5 ((.tup [.int (1),.int (5),.int (256)]))=H5 at*
 replace b1:=b1.same s_p5
 replace b2:=b2.same s_p5
 replace b3:=b3.same s_p5
 replace b4:=b4.same s_p5
 have b5:=qG (lag:=lag) e_p5 (lD (.inr (.inr (by omega))))
 intro p6 n_p6
 have e_p6:=aa (H:=H5) (a:=p6) (o:=(.tup [.int (1),.int (6),.int (-1)]))
 have s_p6:=ao (H:=H5) (o:=(.tup [.int (1),.int (6),.int (-1)])) n_p6
 replace sm:=sm.trans s_p6
 generalize upd H5 p6 ((.tup [.int (1),.int (6),.int (-1)]))=H6 at*
 replace b1:=b1.same s_p6
 replace b2:=b2.same s_p6
 replace b3:=b3.same s_p6
 replace b4:=b4.same s_p6
 replace b5:=b5.same s_p6
 have b6:=qG (lag:=lag) e_p6 (lD (.inr (.inr (by omega))))
 intro l n_l
 have e_l:=aa (H:=H6) (a:=l) (o:=(.lst [V.ref p1,V.ref p2,V.ref p3,V.ref p4,V.ref p5,V.ref p6]))
 have s_l:=ao (H:=H6) (o:=(.lst [V.ref p1,V.ref p2,V.ref p3,V.ref p4,V.ref p5,V.ref p6])) n_l
 replace sm:=sm.trans s_l
 generalize upd H6 l ((.lst [V.ref p1,V.ref p2,V.ref p3,V.ref p4,V.ref p5,V.ref p6]))=H7 at*
 obtain ⟨ys,e_m,bl,yl⟩: ∃ys,H7 l=some (.lst ys)∧(∀v∈ys,JO lag H7 v)∧ys.length=6:=⟨_,e_l,fun v hv=>by
  simp only [List.mem_cons,List.not_mem_nil,or_false] at hv
  rcases hv with rfl|rfl|rfl|rfl|rfl|rfl
  ·exact b1.same s_l
  ·exact b2.same s_l
  ·exact b3.same s_l
  ·exact b4.same s_l
  ·exact b5.same s_l
  ·exact b6.same s_l,rfl⟩
 clear e_l b1 b2 b3 b4 b5 b6 e_p1 e_p2 e_p3 e_p4 e_p5 e_p6 s_p1 s_p2 s_p3 s_p4 s_p5 s_p6 n_p1 n_p2 n_p3 n_p4 n_p5 n_p6 n_l s_l
 clear p1 p2 p3 p4 p5 p6 H1 H2 H3 H4 H5 H6
 have hp7:=sm _ _ hp
 have nx:=bz hD
 rw [←h_u1,aR]
 exists hp7
 generalize h_u2:aR _=u2
 obtain ⟨i,ei,hi⟩: ∃i:Nat,c / 6 % (((xs.map V.ref).length:Int)+1)=(i:Int)∧i≤xs.length:=⟨(c / 6 % (((xs.map V.ref).length:Int)+1)).toNat,by
  have:=Int.emod_nonneg (c / 6) (show ((xs.map V.ref).length:Int)+1≠0 by omega)
  omega,by
  have:=Int.emod_lt_of_pos (c / 6) (show 0<((xs.map V.ref).length:Int)+1 by omega)
  rw [List.length_map] at*
  omega⟩
 refine ⟨by omega,?_⟩
 rw [ei]
 obtain ⟨j,ej,hj⟩: ∃j:Nat,c % 6=(j:Int)∧j<ys.length:=⟨(c % 6).toNat,by omega,by rw [yl];omega⟩
 have hat:sH ys (c % 6)=some ys[j]:=by rw [ej];exact tZ (List.getElem?_eq_getElem hj)
 obtain ⟨y,d,ey,h1,h2⟩:=bl ys[j] (List.getElem_mem hj)
 rw [ey] at hat
 obtain ⟨n,en,hn⟩: ∃n:Nat,(c / 42 % 3).toNat=n∧n≤2:=⟨_,rfl,by omega⟩
 have hn1:n=(c / 42 % 3).toNat:=en.symm
 clear ey bl yl
 rw [←h_u2,aR]
 exists hp7
 generalize h_u3:aR _=u3
 refine ⟨sJ (bU.of hp7),?_⟩
 intro t0 n_t0
 have e_t0:=aa (H:=H7) (a:=t0) (o:=(.tup [.int 1,.int 0,.int 0]))
 have s_t0:=ao (H:=H7) (o:=(.tup [.int 1,.int 0,.int 0])) n_t0
 replace hp7:=s_t0 _ _ hp7
 replace e_m:=s_t0 _ _ e_m
 replace h1:=s_t0 _ _ h1
 replace sm:=sm.trans s_t0
 generalize upd H7 t0 ((.tup [.int 1,.int 0,.int 0]))=H8 at*
 intro l0 n_l0
 have e_l0:=aa (H:=H8) (a:=l0) (o:=(.lst [.ref t0]))
 have s_l0:=ao (H:=H8) (o:=(.lst [.ref t0])) n_l0
 replace hp7:=s_l0 _ _ hp7
 replace e_m:=s_l0 _ _ e_m
 replace h1:=s_l0 _ _ h1
 replace e_t0:=s_l0 _ _ e_t0
 replace sm:=sm.trans s_l0
 generalize upd H8 l0 ((.lst [.ref t0]))=H9 at*
 refine ⟨l0,c / 42 % 3,_,rfl,rfl,e_l0,by omega,by omega,by rw [sizeLine_eq,en,List.length_singleton];omega,?_⟩
 rw [en,J7]
 intro r0 n_r0
 have e_r0:=aa (H:=H9) (a:=r0) (o:=(.lst (List.replicate n (.ref t0))))
 have s_r0:=ao (H:=H9) (o:=(.lst (List.replicate n (.ref t0)))) n_r0
 replace hp7:=s_r0 _ _ hp7
 replace e_m:=s_r0 _ _ e_m
 replace h1:=s_r0 _ _ h1
 replace e_t0:=s_r0 _ _ e_t0
 replace sm:=sm.trans s_r0
 generalize upd H9 r0 ((.lst (List.replicate n (.ref t0))))=H10 at*
 exists e_m
 refine ⟨_,hat,?_⟩
 intro r1 n_r1
 have e_r1:=aa (H:=H10) (a:=r1) (o:=(.lst [.ref y]))
 have s_r1:=ao (H:=H10) (o:=(.lst [.ref y])) n_r1
 replace hp7:=s_r1 _ _ hp7
 replace e_r0:=s_r1 _ _ e_r0
 replace h1:=s_r1 _ _ h1
 replace e_t0:=s_r1 _ _ e_t0
 replace sm:=sm.trans s_r1
 generalize upd H10 r1 ((.lst [.ref y]))=H11 at*
 refine fo e_r0 e_r1 (by rw [sizeLine_eq,List.length_replicate,List.length_singleton];omega) ?_
 have sm11:=sm
 intro r2 n_r2
 have e_r2:=aa (H:=H11) (a:=r2) (o:=(.lst (List.replicate n (.ref t0)++ [.ref y])))
 have s_r2:=ao (H:=H11) (o:=(.lst (List.replicate n (.ref t0)++ [.ref y]))) n_r2
 replace hp7:=s_r2 _ _ hp7
 replace h1:=s_r2 _ _ h1
 replace e_t0:=s_r2 _ _ e_t0
 replace sm:=sm.trans s_r2
 generalize upd H11 r2 ((.lst (List.replicate n (.ref t0)++ [.ref y])))=H12 at*
 have f2:H r2=none:=xQ sm11 n_r2
 refine ⟨p,_,_,_,rfl,rfl,hp7,by omega,by omega,by rw [sizeLine_eq,List.length_map];omega,?_⟩
 rw [Int.toNat_natCast]
 have ne0:=Hb hp hD
 have B:cm p H12 (upd H12 p (HO.lst (List.take i (List.map V.ref xs)++V.ref r2::List.drop i (List.map V.ref xs)))):=cm.upd
 have e13:upd H12 p (HO.lst (List.take i (List.map V.ref xs)++V.ref r2::List.drop i (List.map V.ref xs))) p=some (.lst ((xs.take i++r2::xs.drop i).map V.ref)):=by
  rw [List.map_append,List.map_cons,List.map_take,List.map_drop];exact aa
 generalize upd H12 p (HO.lst (List.take i (List.map V.ref xs)++V.ref r2::List.drop i (List.map V.ref xs)))=H13 at*
 have B0:cm p H H13:=fun b o e ne=>B _ _ (sm _ _ e) ne
 have nr2:r2≠p:=(av hp f2).symm
 have nt0:t0≠p:=fun z=>by rw [z,hp7] at e_t0;cases e_t0
 have ny:y≠p:=fun z=>by rw [z,hp7] at h1;cases h1
 have dd:bP H13 r2 (List.replicate n (1,0,0)++ [d]):=⟨List.replicate n t0++ [y],by rw [List.map_append,List.map_replicate];exact B _ _ e_r2 nr2,oA (DP n (B _ _ e_t0 nt0)) (.cons (B _ _ h1 ny) .nil),by rw [List.length_append,List.length_replicate,List.length_singleton];omega⟩
 have hD3:=xI hD B0 ne0 hp
 have hD4:Paired (bP H13) (xs.take i++r2::xs.drop i) (dss.take i++(List.replicate n (1,0,0)++ [d])::dss.drop i):=oA (vZ hD3 i) (.cons dd (v_ hD3 i))
 have fb:=BJ (lag:=lag) (i:=i) (by omega) hok (GG (ds:=List.replicate n (1,0,0)) h2)
 have mx: ∀x∈xs.take i++r2::xs.drop i,x∈xs∨H x=none:=fun x hx=>by
  rcases List.mem_append.mp hx with e|e
  ·exact .inl (List.mem_of_mem_take e)
  rcases List.mem_cons.mp e with rfl|e
  ·exact .inr f2
  ·exact .inl (List.mem_of_mem_drop e)
 have ln:(dss.take i++(List.replicate n (1,0,0)++ [d])::dss.drop i).length≤6:=by
  rw [List.length_append,List.length_cons,List.length_take,List.length_drop];omega
 generalize xs.take i++r2::xs.drop i=xs1 at*
 generalize dss.take i++(List.replicate n (1,0,0)++ [d])::dss.drop i=dss1 at*
 clear B dd h1 h2 e_t0 hp7 e_r2 n_r2 s_r2 sm sm11 e_r0 e_r1 e_l0 e_m hat
 show u3 _ _ H13
 rw [←h_u3,aR]
 exists e13
 generalize h_u4:aR _=u4
 split
 ·
  refine ⟨sJ (bU.of e13),?_⟩
  have e13':=e13
  have sm13:aW H13 H13:=fun _ _ e=>e
  intro t1 n_t1
  have e_t1:=aa (H:=H13) (a:=t1) (o:=(HO.tup [V.int (lag+1+c / 252 % 50),V.int 0,V.int 0]))
  have s_t1:=ao (H:=H13) (o:=(HO.tup [V.int (lag+1+c / 252 % 50),V.int 0,V.int 0])) n_t1
  replace e13':=s_t1 _ _ e13'
  replace sm13:=sm13.trans s_t1
  generalize upd H13 t1 ((HO.tup [V.int (lag+1+c / 252 % 50),V.int 0,V.int 0]))=H14 at*
  have sm14:=sm13
  intro l1 n_l1
  have e_l1:=aa (H:=H14) (a:=l1) (o:=(HO.lst [V.ref t1]))
  have s_l1:=ao (H:=H14) (o:=(HO.lst [V.ref t1])) n_l1
  replace e13':=s_l1 _ _ e13'
  replace e_t1:=s_l1 _ _ e_t1
  replace sm13:=sm13.trans s_l1
  generalize upd H14 l1 ((HO.lst [V.ref t1]))=H15 at*
  refine ⟨_,e13',by rw [sizeLine_eq,List.length_map];have:=bz hD4;omega,?_⟩
  have nl1:l1≠p:=(av (s_t1 _ _ e13) n_l1).symm
  have nt1:t1≠p:=fun z=>by rw [z,e13'] at e_t1;cases e_t1
  have f3:H l1=none:=by
   cases e:H l1 with
   |none=>rfl
   |some o=>exact absurd (s_t1 _ _ (B0 _ _ e nl1)) (by rw [n_l1];exact fun z=>by cases z)
  have B2:cm p H15 (upd H15 p (HO.lst (List.map V.ref xs1++ [V.ref l1]))):=cm.upd
  have e16:upd H15 p (HO.lst (List.map V.ref xs1++ [V.ref l1])) p=some (.lst ((xs1++ [l1]).map V.ref)):=by
   rw [List.map_append];exact aa
  generalize upd H15 p (HO.lst (List.map V.ref xs1++ [V.ref l1]))=H16 at*
  have B3:cm p H13 H16:=fun b o e ne=>B2 _ _ (sm13 _ _ e) ne
  rw [←h_u4,aR]
  walk_at "wps"
  refine q i (dss1++ [[(lag+1+c / 252 % 50,0,0)]]) (xs1++ [l1]) H16 (fun b o e ne=>B3 _ _ (B0 _ _ e ne) ne) e16 (fq (xI hD4 B3 (Hb e13 hD4) e13) ⟨[t1],B2 _ _ e_l1 nl1,.cons (B2 _ _ e_t1 nt1) .nil,by simp⟩) (fun x hx=>?_) (by rw [List.length_append,List.length_singleton];omega) (BK fb)
  rcases List.mem_append.mp hx with e|e
  ·exact mx x e
  ·rw [List.mem_singleton.mp e];exact .inr f3
 ·
  rw [←h_u4,aR]
  walk_at "wps"
  exact q i dss1 xs1 H13 B0 e13 hD4 mx (by omega) fb
theorem tO {K:PySem.W.Frag} {H:Hp} {p q:Addr} {R:VK} (h1:H p=some (.lst [])) (h2:H q=some (.lst [])) (r:R (.bl true) H):yc K false (.ref p) (.ref q) H R:=⟨1,_,_,by decide,vE h1 .nil,vE h2 .nil,.inl ⟨rfl,r⟩⟩
noncomputable def dtV:V→Dt
 | .int i=> .int i
 | .str z=> .str z
 |_=> .non
noncomputable def dtW (w:Ww):Dt:= .t [.int w.1,.int w.2.1,.str w.2.2.1,dtV w.2.2.2]
theorem JH {K:PySem.W.Frag} {H:Hp} {v:V} (h:bwB v):Dn K H 0 v (dtV v):=by
 rcases h with rfl|⟨i,rfl⟩|⟨z,rfl,_⟩
 ·exact .inl ⟨rfl,rfl⟩
 ·exact .inr (.inl ⟨i,rfl,rfl⟩)
 ·exact .inr (.inr (.inl ⟨z,rfl,rfl⟩))
theorem C9.dn {K:PySem.W.Frag} {H:Hp} {x:Addr} {w:Ww} (h:C9 H x w):Dn K H 1 (.ref x) (dtW w):=
 vD h.1 (.cons yW (.cons yW (.cons D9 (.cons (JH h.2) .nil))))
theorem GS {K:PySem.W.Frag} {H:Hp}: ∀{xs:List Addr} {ws:List Ww},Paired (C9 H) xs ws→Paired (Dn K H 1) (xs.map V.ref) (ws.map dtW)
 |_,_,.nil=> .nil
 |_,_,.cons r rr=> .cons r.dn (GS rr)
theorem qu.dn {K:PySem.W.Frag} {H:Hp} {x:Addr} {ws:List Ww} (h:qu H x ws):Dn K H 2 (.ref x) (.l (ws.map dtW)):=by
 obtain ⟨xs,h1,h2,_⟩:=h
 exact vE h1 (GS h2)
theorem Rp {K:PySem.W.Frag} {H:Hp} {p q:Addr} {ws:List Ww} {R:VK} (h1:qu H p ws) (h2:H q=some (.lst [])) (r:R (.bl (decide (ws= []))) H):yc K false (.ref p) (.ref q) H R:=by
 refine ⟨2,_,_,by decide,h1.dn,vE h2 .nil,?_⟩
 cases ws with
 |nil=>exact .inl ⟨rfl,r⟩
 |cons a l=>exact .inr ⟨by simp,r⟩
theorem JR.same {CW CRo CH CT CS CWy CM:Addr} {tb:List (Addr×Str)} {H H':Hp} {x:Addr} {M:Int} (h:JR CW CRo CH CT CS CWy CM tb H x M) (s:aW H H'):JR CW CRo CH CT CS CWy CM tb H' x M:=by
 obtain ⟨dx,tm,rds,ded,wl,hs,os,td,r0,r1,h0,h1,o0,o1,da,db,A0,A1,r,o,t,f,l,W⟩:=h
 obtain ⟨_,_,_,ra⟩:=W.ra
 obtain ⟨_,_,_,rb⟩:=W.rb
 exact ⟨dx,tm,rds,ded,wl,hs,os,td,r0,r1,h0,h1,o0,o1,da,db,A0,A1,r,o,t,f,l,⟨s _ _ W.hx,s _ _ W.hr,⟨_,_,_,ra.same s⟩,⟨_,_,_,rb.same s⟩,s _ _ W.hh,W.ha.same s,W.hb.same s,s _ _ W.ho,s _ _ W.oa,s _ _ W.ob,s _ _ W.ht⟩⟩
include T in theorem wL:FnAt P w K mg base (fA P w) "_law_refusal" 9 ["_law_terms","_law_roads","_law_wishes"] (kj aT aY aO aI af ay ar aC aj aE aF ah ag ai bj aw az):=by
 exists 0,T.mh,bA,xu,kj
 rename_i tm rd wi
 refine ⟨_,(Fl.h (a_ ⟨(bo (i:=3) bA.nd rfl (Or.inl rfl) eL)⟩
 (a_ (cf (i:=4) bA.nd rfl (Or.inl rfl) (bH (aX ⟨bc⟩ (aX ⟨ae⟩ (aX ⟨sX⟩ bw)))))
 (a7 (a_ ⟨(P4 (fun _ _ _=>(aM (bo (i:=3) bA.nd rfl (Or.inl rfl) (Qd T.bN (uW T) HR (by decide) rfl (HW rfl) (ax (pv 0) (ax (pv 1) (ax (pv 2) aq))))))) (EK (i:=5) rfl T.nK rfl bA.nd rfl rfl (fun _=>(aM (bo (i:=4) bA.nd rfl (Or.inl rfl) (cK (ax bc (ax (EO (pv 5) T.qB T.dX rfl) (ax (bu (aV (qF K rfl) (by rfl) T.a9 a8 (ax (pv 5) (ax (Bm T.k8 rfl) aq))) (b9 (uT (aV (qF K rfl) (by rfl) T.a9 a8 (ax (pv 5) (ax (Bm T.nJ rfl) aq)))))) aq))))))) (EK (i:=5) rfl T.nJ rfl bA.nd rfl rfl (fun _=>(aM (bo (i:=4) bA.nd rfl (Or.inl rfl) (cK (ax bc (ax (EO (pv 5) T.qA T.dW rfl) (ax (bu (aV (qF K rfl) (by rfl) T.a9 a8 (ax (pv 5) (ax (Bm T.k8 rfl) aq))) (b9 (uT (aV (qF K rfl) (by rfl) T.a9 a8 (ax (pv 5) (ax (Bm T.nK rfl) aq)))))) aq))))))) P9)))⟩
 (a7 (a_ (yd (bR EU (pv 3) eL (nomark _)) (fL ⟨(ba (pv 4))⟩) ot)
 (a7 (a_ ⟨(bo (i:=6) bA.nd rfl (Or.inl rfl) (ow (pv 3) T.bN (zz T) HR (by decide)))⟩
 (a7 (a_ ⟨(bo (i:=7) bA.nd rfl (Or.inl rfl) (bu (aV (fz K rfl) (by rfl) T.a9 a8 (ax (pv 6) (ax (lW rfl T.sG tS) aq))) (bu (bM (bq K rfl HR.units) (pv 6) (bM (bq K rfl HR.units) (pv 2) (cw aq) (nomark _)) (nomark _)) (bu (bM (bq K rfl HR.units) (ow (pv 3) T.bN (Bq T) HR (by decide)) (cw aq) (nomark _)) (b9 (bM (bq K rfl HR.units) (bp (pv 3) T.bN T.jZ rfl) ae (nomark _)))))))⟩
 (a7 (a_ ⟨(bo (i:=7) bA.nd rfl (Or.inl rfl) (bu (pv 7) (bu (bM (bq K rfl HR.units) (rS (pv 3) T.bN (nE T) HR (by decide) (ax ae aq)) (cw aq) (nomark _)) (b9 (bM (bq K rfl HR.units) (rS (pv 3) T.bN (nE T) HR (by decide) (ax ae aq)) (cw aq) (nomark _))))))⟩
 (a7 (fL (P1 (bH (aX ⟨bc⟩ (aX ⟨eL⟩ (aX ⟨(bu (pv 7) (bu (bM (bq K rfl HR.units) (rS (pv 3) T.bN (mE T) HR (by decide) (ax ae aq)) (cw aq) (nomark _)) (b9 (bM (bq K rfl HR.units) (rS (pv 3) T.bN (mE T) HR (by decide) (ax ae aq)) (cw aq) (nomark _)))))⟩ bw)))))))))))))))))))),?_⟩
 obtain ⟨r,o,t,g,f,l,pa,pb,da,db,ws,hT,hG,hr,hA,hB,hl,hW,q⟩:=h
 walk_at "wps"
 generalize h_u1:aR _=u1
 intro t0 n_t0
 have e_t0:=aa (H:=H) (a:=t0) (o:=(.tup [.str (Str.ofString "none"),.int 0,.bl false]))
 have s_t0:=ao (H:=H) (o:=(.tup [.str (Str.ofString "none"),.int 0,.bl false])) n_t0
 generalize upd H t0 ((.tup [.str (Str.ofString "none"),.int 0,.bl false]))=H1 at*
 rw [←h_u1,aR]
 generalize h_u2:aR _=u2
 refine CK fun DD eDD=>?_
 have fin: ∀p k v H3,aW H H3→H3 p=some (.tup [.str k,v,.bl true])→C7 g da db ws k v→u2 DD [some (V.ref tm),some (V.ref rd),some (V.ref wi),some V.non,some (V.ref p),none,none,none] H3:=by
  intro p k v H3 s3 hp ho
  rw [←h_u2,aR]
  walk_at "wps"
  rw [eDD]
  exact q p k v H3 s3 hp ho
 exists T.vc,T.iF,T.rN,T.dF,T.dP,T.f_,T.gY,T.i_,T.jy,T.f9,T.gX,T.gf,T.g7,T.ez,T.eT,T.f7,T.gW,T.gc,T.g0,T.ja,T.jz,T.gb,T.gZ,T.yA,T.j9,T.uQ,T.ee,T.eP,T.iT,T.jj,T.kE,T.kL,T.iS,T.ji,T.iW,T.jm,T.fM,T.gG,T.iR,T.jh,T.iV,T.jl,T.kG,T.kM,T.iU,T.jk,T.vb,T.kb,T.rM,T.dE,T.dO,T.fW,T.gR,T.i8,T.jw,T.fV,T.gQ,T.fZ,T.gU,T.et,T.eS,T.fU,T.gP,T.fY,T.gT,T.i9,T.jx,T.fX,T.gS,T.qB,T.dX,T.rQ,T.dJ,T.dU,T.gB,T.ie,T.jf,T.jE,T.gA,T.ic,T.gE,T.ip,T.eK,T.e_,T.gz,T.ib,T.gD,T.ij,T.jg,T.jF,T.gC,T.ig,T.r9,T.pQ,T.cS,T.cU,T.eF,T.eY,T.gx,T.h_,T.eE,T.eX,T.eJ,T.e8,T.dI,T.dS,T.eC,T.eW,T.eI,T.e7,T.gy,T.ia,T.eG,T.eZ,T.va,T.c8,T.rL,T.dC,T.dN,T.fP,T.gJ,T.iX,T.jn,T.fO,T.gI,T.fS,T.gM,T.eg,T.eQ,T.fN,T.gH,T.fR,T.gL,T.iY,T.jo,T.fQ,T.gK,T.vd,T.rP,T.dH,T.dR,T.gr,T.h6,T.jd,T.jC,T.gq,T.hZ,T.gw,T.h9,T.eB,T.eV,T.gp,T.hX,T.gv,T.h8,T.je,T.jD,T.gu,T.h7,T.yB,T.j_,T.lG,T.uR,T.eh,T.eR,T.i4,T.js,T.kH,T.kN,T.i3,T.jr,T.i7,T.jv,T.fT,T.gN,T.iZ,T.jq,T.i6,T.ju,T.kI,T.kO,T.i5,T.jt,T.qA,T.dW,T.rO,T.dG,T.dQ,T.gj,T.g_,T.jb,T.jA,T.gi,T.g9,T.gn,T.hV,T.eA,T.eU,T.gg,T.g8,T.gm,T.hU,T.jc,T.jB,T.gk,T.hJ
 intro x dx nx ndx nex
 have s2:=s_t0.trans (lK (C:=aT) (fs:=[]) nx ndx)
 refine ⟨dx,r,o,t,g,f,l,pa,pb,da,db,ws,rfl,hT.same s2,hG,s2 _ _ hr,hA.same s2,hB.same s2,hl,hW.same s2,fun i fb H2 d Sx hd ea hea=>?_,fun ok i fb H2 d Sx hd ea hea=>?_,fun ok1 ok2 i fb H2 d Bx hd ea hea=>?_,fun ok1 ok2 l60 hw H2 rds ded wl hs os td r0 r1 h0 h1 o0 o1 M A0 A1 Bx hM WA=>?_⟩
 ·
  have hd1:upd H2 ea (.ext (kP ea (.ref aw) (some d))) d=some (.xd [("at",.int i)]):=mC hd hea
  have s3:=(s2.trans Sx).trans (ao (o:= .ext (kP ea (.ref aw) (some d))) hea)
  exact ⟨_,hd1,.int i,by kernel_rfl,⟨_,hd1⟩,⟨_,hd1⟩,fun p np=>fin p _ _ _ (s3.trans (ao np)) aa (.inl ⟨rfl,i,rfl,.inl fb⟩)⟩
 ·
  have hd1:upd H2 ea (.ext (kP ea (.ref aw) (some d))) d=some (.xd [("at",.int i)]):=mC hd hea
  have s3:=(s2.trans Sx).trans (ao (o:= .ext (kP ea (.ref aw) (some d))) hea)
  exact ⟨_,hd1,.int i,by kernel_rfl,⟨_,hd1⟩,⟨_,hd1⟩,fun p np=>fin p _ _ _ (s3.trans (ao np)) aa (.inl ⟨rfl,i,rfl,.inr ⟨ok,fb⟩⟩)⟩
 ·
  have hd1:upd H2 ea (.ext (kP ea (.ref az) (some d))) d=some (.xd [("at",.int i)]):=mC hd hea
  have sB:aW H H2:=fun b o' e=>Bx b o' (s2 b o' e) (av (s_t0 b o' e) nx)
  have s3:=sB.trans (ao (o:= .ext (kP ea (.ref az) (some d))) hea)
  exact ⟨_,hd1,.int i,by kernel_rfl,⟨_,hd1⟩,⟨_,hd1⟩,fun p np=>fin p _ _ _ (s3.trans (ao np)) aa (.inr (.inl ⟨rfl,ok1,ok2,i,rfl,fb⟩))⟩
 have sB:aW H H2:=fun b o' e=>Bx b o' (s2 b o' e) (av (s_t0 b o' e) nx)
 have WF:JR aT aY aO aI af ay ar (tbl aC aj aE aF ah ag ai) H2 x M:=⟨_,_,_,_,_,_,_,_,_,_,_,_,_,_,_,_,_,_,_,_,_,_,_,WA⟩
 have hx:=WA.hx
 have hWs:=hW.same sB
 clear fin WA s2 Bx nx ndx nex s_t0 e_t0 n_t0
 rw [←h_u2,aR]
 walk_at "wps"
 generalize h_u3:aR _=u3
 rw [←h_u3,aR]
 generalize h_u4:aR _=u4
 exists hx
 refine ⟨M,WF,fun H3 s3=>?_⟩
 replace WF:=WF.same s3
 replace hx:=s3 _ _ hx
 replace hWs:=hWs.same s3
 replace sB:=sB.trans s3
 clear s3
 have eM:decide (M<0)=decide (ws= []):=by
  rcases hM with ⟨e1,e2⟩|⟨⟨w0,h1,h2⟩,h3⟩
  ·rw [e2,decide_eq_true e1];rfl
  ·
   have:=hw w0 h1
   unfold cn at this
   rw [Bool.and_eq_true,Bool.and_eq_true,lz] at this
   rw [decide_eq_false (show¬M<0 by omega),decide_eq_false (fun e=>by rw [e] at h1;cases h1)]
 rw [eM]
 rw [←h_u4,aR]
 generalize h_u5:aR _=u5
 exists hx
 intro n1 n_n1
 have e_n1:=aa (H:=H3) (a:=n1) (o:=(.lst []))
 have s_n1:=ao (H:=H3) (o:=(.lst [])) n_n1
 replace hx:=s_n1 _ _ hx
 replace sB:=sB.trans s_n1
 generalize upd H3 n1 ((.lst []))=H4 at*
 replace WF:=WF.same s_n1
 refine Rp (hWs.same s_n1) e_n1 ?_
 clear eM hWs
 exists hx
 refine ⟨M,WF,fun a1 H5 s5 ea1=>?_⟩
 replace WF:=WF.same s5
 replace hx:=s5 _ _ hx
 replace sB:=sB.trans s5
 intro n2 n_n2
 have e_n2:=aa (H:=H5) (a:=n2) (o:=(.lst []))
 have s_n2:=ao (H:=H5) (o:=(.lst [])) n_n2
 replace hx:=s_n2 _ _ hx
 replace ea1:=s_n2 _ _ ea1
 replace sB:=sB.trans s_n2
 generalize upd H5 n2 ((.lst []))=H6 at*
 replace WF:=WF.same s_n2
 refine tO ea1 e_n2 ?_
 exists hx
 rw [←h_u5,aR]
 generalize h_u6:aR _=u6
 exists hx
 refine ⟨M,WF,fun a2 H7 s7 ea2=>?_⟩
 replace WF:=WF.same s7
 replace hx:=s7 _ _ hx
 replace sB:=sB.trans s7
 intro n3 n_n3
 have e_n3:=aa (H:=H7) (a:=n3) (o:=(.lst []))
 have s_n3:=ao (H:=H7) (o:=(.lst [])) n_n3
 replace hx:=s_n3 _ _ hx
 replace ea2:=s_n3 _ _ ea2
 replace sB:=sB.trans s_n3
 generalize upd H7 n3 ((.lst []))=H8 at*
 replace WF:=WF.same s_n3
 refine tO ea2 e_n3 ?_
 exists hx
 refine ⟨M,WF,fun a3 H9 s9 ea3=>?_⟩
 replace WF:=WF.same s9
 replace hx:=s9 _ _ hx
 replace sB:=sB.trans s9
 intro n4 n_n4
 have e_n4:=aa (H:=H9) (a:=n4) (o:=(.lst []))
 have s_n4:=ao (H:=H9) (o:=(.lst [])) n_n4
 replace hx:=s_n4 _ _ hx
 replace ea3:=s_n4 _ _ ea3
 replace sB:=sB.trans s_n4
 generalize upd H9 n4 ((.lst []))=H10 at*
 replace WF:=WF.same s_n4
 refine tO ea3 e_n4 ?_
 rw [←h_u6,aR]
 exists hx
 refine ⟨M,WF,fun a4 H11 s11 ea4=>?_⟩
 replace WF:=WF.same s11
 replace hx:=s11 _ _ hx
 replace sB:=sB.trans s11
 intro n5 n_n5
 have e_n5:=aa (H:=H11) (a:=n5) (o:=(.lst []))
 have s_n5:=ao (H:=H11) (o:=(.lst [])) n_n5
 replace hx:=s_n5 _ _ hx
 replace ea4:=s_n5 _ _ ea4
 replace sB:=sB.trans s_n5
 generalize upd H11 n5 ((.lst []))=H12 at*
 replace WF:=WF.same s_n5
 refine tO ea4 e_n5 ?_
 exists hx
 refine ⟨M,WF,fun a5 H13 s13 ea5=>?_⟩
 replace sB:=sB.trans s13
 intro n6 nn6
 refine tO (mC ea5 nn6) aa ?_
 intro p np
 rw [eDD]
 exact q p _ _ _ ((sB.trans (ao nn6)).trans (ao np)) aa (.inr (.inr ⟨rfl,rfl,ok1,ok2,l60,hw⟩))
theorem AB {K:PySem.W.Frag} {H:Hp}: ∀{cs:List Addr} {ds:List Cp},Paired (fun c (d:Cp)=>qv H c d.1 d.2.1 d.2.2) cs ds→Paired (Dn K H 1) (cs.map V.ref) (ds.map fun d=>Dt.t [.int d.1,.int d.2.1,.int d.2.2])
 |_,_,.nil=> .nil
 |_,_,.cons r rr=> .cons (vD r (.cons yW (.cons yW (.cons yW .nil)))) (AB rr)
noncomputable def dtD (ds:List Cp):Dt:= .l (ds.map fun d=>Dt.t [.int d.1,.int d.2.1,.int d.2.2])
theorem bP.dn {K:PySem.W.Frag} {H:Hp} {x:Addr} {ds:List Cp} (h:bP H x ds):Dn K H 2 (.ref x) (dtD ds):=by
 obtain ⟨cs,h1,h2,_⟩:=h
 exact vE h1 (AB h2)
theorem CU {K:PySem.W.Frag} {H:Hp}: ∀{xs:List Addr} {dss:List (List Cp)},Paired (bP H) xs dss→Paired (Dn K H 2) (xs.map V.ref) (dss.map dtD)
 |_,_,.nil=> .nil
 |_,_,.cons r rr=> .cons r.dn (CU rr)
theorem nq.dn {K:PySem.W.Frag} {H:Hp} {x:Addr} {dss:List (List Cp)} (h:nq H x dss):Dn K H 3 (.ref x) (.l (dss.map dtD)):=by
 obtain ⟨xs,h1,h2,_⟩:=h
 exact vE h1 (CU h2)
theorem RD {ns:List Int}: ∃ms:List Int,yY (ns.map V.int) (some 3) (some 63)=ms.map V.int∧ms.length≤60:=by
 refine ⟨_,JA,?_⟩
 rw [List.length_take]
 have h1:HT.iC ns.length ns.length (some ((63:Nat):Int))=min 63 ns.length:=HT.ED _ _ 63
 have h2:HT.iC ns.length 0 (some ((3:Nat):Int))=min 3 ns.length:=HT.ED _ _ 3
 rw [show (some (63:Int))=some ((63:Nat):Int) from rfl,show (some (3:Int))=some ((3:Nat):Int) from rfl,h1,h2]
 omega
theorem K7 {ms:List Int} {i:Nat} {y:V} (h:(ms.map V.int)[i]?=some y): ∃c,y = .int c:=by
 rw [List.getElem?_map] at h
 obtain ⟨c,_,e⟩:=Option.map_eq_some_iff.mp h
 exact ⟨c,e.symm⟩
theorem BC {A B:Prop} [Decidable A] [Decidable B] {P R:Prop} (h1:A∨B→P) (h2: ¬(A∨B)→R):if A then P else if B then P else R:=by
 split
 ·exact h1 (.inl (by assumption))
 split
 ·exact h1 (.inr (by assumption))
 ·exact h2 (fun h=>h.elim (by assumption) (by assumption))
def goodW (ws:List Ww):Prop:= ∀w∈ws,cn w=true
theorem Ay {a b:List Ww} (h:goodW a) (t:goodW b):goodW (a++b):=fun w hw=>(List.mem_append.mp hw).elim (h w) (t w)
theorem Gz {w:Ww} (h:cn w=true):goodW [w]:=fun w' hw=>by rw [List.mem_singleton.mp hw];exact h
theorem Lk {ws:List Ww} (h:goodW ws) (hl:60<ws.length):fv ws 60:=⟨by omega,hl,.inl rfl,fun j _ w e=>h w (List.mem_of_getElem? e)⟩
theorem D8 {ws:List Ww} {w:Ww} {i:Nat} (hi:i≤ws.length) (hl:ws.length≤60) (h:goodW ws) (hb:cn w=false):fv (ws.take i++w::ws.drop i) i:=by
 have e:(ws.take i).length=i:=by rw [List.length_take];omega
 refine ⟨by omega,by rw [List.length_append,List.length_cons,e];omega,.inr ⟨w,?_,hb⟩,fun j hj w' h'=>?_⟩
 ·rw [List.getElem?_append_right (by omega),e,Nat.sub_self];rfl
 ·
  rw [List.getElem?_append_left (by omega)] at h'
  exact h w' (List.mem_of_mem_take (List.mem_of_getElem? h'))
def Due (ws:List Ww) (k:Str) (v:V):Prop:=(k = "walk" ∧v = .non∧ws.length≤60∧goodW ws)∨(k = "wish" ∧∃i:Nat,v = .int i∧fv ws i)
theorem CY {K:PySem.W.Frag} {H:Hp} {p:Addr} {dss:List (List Cp)} {R:List V→Hp→Prop} (hR:nq H p dss) (q: ∀(zs:List Addr) H',aW H H'→Paired (bP H') zs dss→R (zs.map V.ref) H'):Co K (V.ref p) H fun J H2=>j6 J (o6 0) Pj (RO (rK K) (sL (J0 0) AO)) [none] H2 R:=by
 obtain ⟨xs2,x1,x2,x3⟩:=hR
 have lx2:=bz x2
 refine tQ (bU.of x1) (bh (by rw [List.length_map,lx2];exact x3)) (fun i ys σ H'=>aW H H'∧∃zs:List Addr,ys=zs.map V.ref∧Paired (bP H') zs (dss.take i)∧∃v,σ= [v]) ⟨aW.refl _,[],rfl,.nil,none,rfl⟩ (fun i ys σ H' hh=>?_) (fun i ys σ H' hh=>bU.of (hh.1 _ _ x1)) (fun i y ys σ H' hy hh=>?_) (fun ys σ H' hh=>?_)
 ·
  obtain ⟨_,zs,e,p,_⟩:=hh
  rw [e,List.length_map,bz p]
  exact List.length_take_le _ _
 ·
  obtain ⟨sm,zs,e,p,v,eσ⟩:=hh
  subst eσ e
  rw [List.getElem?_map] at hy
  obtain ⟨y,ey,rfl⟩:=Option.map_eq_some_iff.mp hy
  obtain ⟨ds,eds,hD⟩:=oz x2 ey
  obtain ⟨cs,d1,d2,d3⟩:=hD.same sm
  walk_at "wps"
  refine ⟨_,.inl (bU.of d1),fun l nl=>⟨sm.trans (ao nl),zs++ [l],by simp,?_⟩⟩
  rw [List.take_add_one,eds]
  exact ⟨fq (R:=bP (upd H' l (.lst (cs.map V.ref)))) (y:=ds) (aP p fun a b q=>q.same (ao nl)) ⟨cs,aa,aP d2 (fun c d q=>mC q nl),d3⟩,_,rfl⟩
 ·
  obtain ⟨sm,zs,e,p,v0,eσ⟩:=hh
  subst eσ e
  rw [List.length_map,lx2,List.take_length] at p
  exact q zs H' sm p
theorem C7.det {g:Int} {da db:List (List Cp)} {ws:List Ww} {k k':Str} {v v':V} (h:C7 g da db ws k v) (h':C7 g da db ws k' v'):k=k'∧v=v':=by
 have nb: ∀{ds:List (List Cp)} {i:Nat},cY g ds i→lV g ds→False:=fun f r=>by
  obtain ⟨⟨b,e1,e2⟩,_⟩:=f
  rw [r b (List.mem_of_getElem? e1)] at e2;cases e2
 have un: ∀{ds:List (List Cp)} {i j:Nat},cY g ds i→cY g ds j→i=j:=fun {ds i j} f f'=>by
  obtain ⟨⟨b,e1,e2⟩,e3⟩:=f
  obtain ⟨⟨b',e1',e2'⟩,e3'⟩:=f'
  rcases Nat.lt_trichotomy i j with z|z|z
  ·rw [e3' i z b e1] at e2;cases e2
  ·exact z
  ·rw [e3 j z b' e1'] at e2';cases e2'
 have unW: ∀{i j:Nat},fv ws i→fv ws j→i=j:=fun {i j} f f'=>by
  obtain ⟨a1,a2,a3,a4⟩:=f
  obtain ⟨b1,b2,b3,b4⟩:=f'
  rcases Nat.lt_trichotomy i j with z|z|z
  ·
   rcases a3 with e|⟨w,e,e'⟩
   ·omega
   ·rw [b4 i z w e] at e';cases e'
  ·exact z
  ·
   rcases b3 with e|⟨w,e,e'⟩
   ·omega
   ·rw [a4 j z w e] at e';cases e'
 have nW: ∀{i:Nat},fv ws i→ws.length≤60→(∀w∈ws,cn w=true)→False:=fun f l gd=>by
  obtain ⟨a1,a2,a3,a4⟩:=f
  rcases a3 with e|⟨w,e,e'⟩
  ·omega
  ·rw [gd w (List.mem_of_getElem? e)] at e';cases e'
 rcases h with ⟨rfl,i,rfl,f⟩|⟨rfl,ra,rb,i,rfl,f⟩|⟨rfl,rfl,ra,rb,l,gd⟩
 ·
  rcases h' with ⟨rfl,i',rfl,f'⟩|⟨rfl,ra',rb',i',rfl,f'⟩|⟨rfl,rfl,ra',rb',l',gd'⟩
  ·
   refine ⟨rfl,?_⟩
   rcases f with f|⟨r,f⟩<;>rcases f' with f'|⟨r',f'⟩
   ·rw [un f f']
   ·exact (nb f r').elim
   ·exact (nb f' r).elim
   ·rw [un f f']
  ·
   rcases f with f|⟨_,f⟩
   ·exact (nb f ra').elim
   ·exact (nb f rb').elim
  ·
   rcases f with f|⟨_,f⟩
   ·exact (nb f ra').elim
   ·exact (nb f rb').elim
 ·
  rcases h' with ⟨rfl,i',rfl,f'⟩|⟨rfl,ra',rb',i',rfl,f'⟩|⟨rfl,rfl,ra',rb',l',gd'⟩
  ·
   rcases f' with f'|⟨_,f'⟩
   ·exact (nb f' ra).elim
   ·exact (nb f' rb).elim
  ·exact ⟨rfl,by rw [unW f f']⟩
  ·exact (nW f l' gd').elim
 ·
  rcases h' with ⟨rfl,i',rfl,f'⟩|⟨rfl,ra',rb',i',rfl,f'⟩|⟨rfl,rfl,ra',rb',l',gd'⟩
  ·
   rcases f' with f'|⟨_,f'⟩
   ·exact (nb f' ra).elim
   ·exact (nb f' rb).elim
  ·exact (nW f' l gd).elim
  ·exact ⟨rfl,rfl⟩
theorem Qm (T:Txt K mg ar ay af aI aO aY aT bj aQ aK aS aJ aw aD aB aL aG az lx aC aj aE aF ah ag ai):FnAt P w K mg base RS "law" 10 ["_law_script"] (Al K):=by
 refine T.Fd.fn cJ JJ (fun vs H Q E h=>?_) fun f cdv A outer s H vs Q E HR h=>?_
 ·unfold Al at h;split at h<;>first|rfl|exact h.elim
 ·
  unfold Al at h
  split at h
  ·
   rename_i a
   obtain ⟨ns,hS,hl,_,q⟩:=h
   refine ⟨_,(Fl.h (a_ ⟨(bo (i:=1) cJ.nd rfl (Or.inl rfl) (bg (cF T) HR (by decide) rfl (ax (bg (d5 T) HR (by decide) rfl (ax (pv 0) (ax ae aq))) (ax ae aq))))⟩
 (a7 (a_ (cf (i:=2) cJ.nd rfl (Or.inl rfl) (bH (aX ⟨(aN (bb K rfl) ae (aN bE (pv 1) ae))⟩ (aX ⟨(aN (bb K rfl) ae (aN bE (aN bF (pv 1) ae) ae))⟩ bw))))
 (a7 (a_ ⟨(bo (i:=3) cJ.nd rfl (Or.inl rfl) (aN (bb K rfl) ae (aN bE (aN bF (pv 1) ae) ae)))⟩
 (a7 (a_ ⟨(bo (i:=4) cJ.nd rfl (Or.inl rfl) (rT T.bY (sZ T) HR (by decide) rfl (ax ae (ax (pv 2) (ax (pv 3) (ax ae (ax ae aq)))))))⟩
 (a7 (a_ ⟨(KD (i:=5) (N:=(["_law_cell"]:List Str)) (nv:=1) (ix:=[]) rfl cJ.nd rfl rfl (kZ (by kernel_rfl)) (c_ K rfl (HQ (abr K rfl) (pv 0) (EI ae) (EI ae))) (fun _ _ _ _ _=>(bI (i:=0) (show ((["_law_cell"]:List Str)).Nodup by decide) rfl (Or.inl rfl))) (fun _ _ _ _ _=>cg) (fun _ _ _ _ _=>(bg (sY T) HR (by decide) rfl (ax (pv 0) aq))))⟩
 (a7 (a_ (cf (i:=6) cJ.nd rfl (Or.inl rfl) (bH (aX ⟨bc⟩ (aX ⟨eL⟩ (aX ⟨sX⟩ bw)))))
 (a7 (a_ ⟨(bo (i:=7) cJ.nd rfl (Or.inr rfl) (bg (d5 T) HR (by decide) rfl (ax (pv 0) (ax ae aq))))⟩
 (a7 (xJ (yd (PW.pt (pw_or (bR (bq K rfl HR.units) (aN bE (pv 7) ae) ae (nomark _)) (pw_or1 (bR (bq K rfl HR.units) (aN bE (pv 7) ae) ae (nomark _))))) (a_ ⟨(bo (i:=5) cJ.nd rfl (Or.inl rfl) (aN (bb K rfl) (pv 5) (cx (N:=(["_law_k","_law_odd"]:List Str)) (nv:=1) (ix:=[7]) rfl (kZ (by kernel_rfl)) (qz rfl T.qH (ax (aN lY (aN (bb K rfl) ae (aN bE (aN bF (pv 7) ae) ae)) (aV (dq K rfl) (by rfl) T.k6 iA (ax (pv 5) aq))) aq)) (fun _ _ _ _ _=>(bI (i:=0) (show ((["_law_k","_law_odd"]:List Str)).Nodup by decide) rfl (Or.inl rfl))) (fun _ _ _ _ _=>cg) (fun _ _ _ _ _=>(cK (ax (pv 0) (ax (aN bE (aN bF (pv 1) ae) ae) (ax bc (ax eL aq)))))))))⟩
 (a7 (fL (cf (i:=6) cJ.nd rfl (Or.inl rfl) (bH (aX ⟨bc⟩ (aX ⟨ae⟩ (aX ⟨sX⟩ bw)))))))) ot)
 (a7 (xJ (yd (bR HY (aN bE (pv 7) ae) ae (nomark _)) (a_ ⟨(bo (i:=8) cJ.nd rfl (Or.inl rfl) (aN bE (aN bF (pv 7) ae) (aN (bb K rfl) (aV (dq K rfl) (by rfl) T.k6 iA (ax (pv 5) aq)) ae)))⟩
 (a7 (a_ ⟨(nB (ES PySem.F.plainAttrs_list PySem.F.slot_list_insert PySem.F.type_list_insert Ar (pv 5) (ax (pv 8) (ax (bg (zy T) HR (by decide) rfl (ax (bg (sY T) HR (by decide) rfl (ax (aN bF (pv 7) ae) aq)) (ax (bg (cF T) HR (by decide) rfl (ax (pv 7) (ax ae aq))) aq))) aq))))⟩
 (a7 (fL (cf (i:=6) cJ.nd rfl (Or.inl rfl) (bH (aX ⟨bc⟩ (aX ⟨(pv 8)⟩ (aX ⟨sX⟩ bw)))))))))) ot)
 (a7 (a_ (cf (i:=9) cJ.nd rfl (Or.inl rfl) (bH (aX ⟨(bg (rg T) HR (by decide) rfl (ax (bg (d5 T) HR (by decide) rfl (ax (pv 0) (ax ae aq))) (ax (pv 3) aq)))⟩ (aX ⟨(bg (rg T) HR (by decide) rfl (ax (aN (bb K rfl) (aN bF (bg (d5 T) HR (by decide) rfl (ax (pv 0) (ax ae aq))) ae) ae) (ax (pv 3) aq)))⟩ bw))))
 (a_ ⟨(bo (i:=10) cJ.nd rfl (Or.inl rfl) (aN bE (aN bF (pv 1) ae) ae))⟩
 (a7 (xJ (yd (PW.pt (pw_or (bR (bq K rfl HR.units) (pv 10) ae (nomark _)) (pw_or1 (bR (bq K rfl HR.units) (pv 10) ae (nomark _))))) (fL (cf (i:=6) cJ.nd rfl (Or.inl rfl) (bH (aX ⟨bc⟩ (aX ⟨(bg (rf T) HR (by decide) rfl (ax (bL (cV K rfl) (pv 9) ae (fun _ _=>rfl)) (ax (bg (cF T) HR (by decide) rfl (ax (pv 7) (ax ae aq))) (ax (pv 3) aq))))⟩ (aX ⟨sX⟩ bw)))))) ot)
 (a7 (xJ (yd (PW.pt (pw_or (bR (bq K rfl HR.units) (pv 10) ae (nomark _)) (pw_or1 (bR (bq K rfl HR.units) (pv 10) ae (nomark _))))) (fL (cf (i:=6) cJ.nd rfl (Or.inl rfl) (bH (aX ⟨bc⟩ (aX ⟨(bg (rf T) HR (by decide) rfl (ax (bL (cV K rfl) (pv 9) ae (fun _ _=>rfl)) (ax (bg (cF T) HR (by decide) rfl (ax (pv 7) (ax ae aq))) (ax (pv 3) aq))))⟩ (aX ⟨sX⟩ bw)))))) ot)
 (a7 (a_ (cf (i:=11) cJ.nd rfl (Or.inl rfl) (bH (aX ⟨(cx (N:=(["_law_deed"]:List Str)) (nv:=1) (ix:=[]) rfl (kZ (by kernel_rfl)) (c_ K rfl (bL (cV K rfl) (pv 9) ae (fun _ _=>rfl))) (fun _ _ _ _ _=>(bI (i:=0) (show ((["_law_deed"]:List Str)).Nodup by decide) rfl (Or.inl rfl))) (fun _ _ _ _ _=>cg) (fun _ _ _ _ _=>(eO (fj K rfl) (by rfl) T.o5 o4 (ax (pv 0) aq))))⟩ (aX ⟨(cx (N:=(["_law_deed"]:List Str)) (nv:=1) (ix:=[]) rfl (kZ (by kernel_rfl)) (c_ K rfl (bL (cV K rfl) (pv 9) ae (fun _ _=>rfl))) (fun _ _ _ _ _=>(bI (i:=0) (show ((["_law_deed"]:List Str)).Nodup by decide) rfl (Or.inl rfl))) (fun _ _ _ _ _=>cg) (fun _ _ _ _ _=>(eO (fj K rfl) (by rfl) T.o5 o4 (ax (pv 0) aq))))⟩ (aX ⟨(eO (fj K rfl) (by rfl) T.o5 o4 (ax (pv 5) aq))⟩ bw)))))
 (a7 (a_ ⟨(bo (i:=12) cJ.nd rfl (Or.inl rfl) (bg (wL T) HR (by decide) rfl (ax (pv 4) (ax (pv 9) (ax (pv 5) aq)))))⟩
 (a7 (a_ (yd (PW.pt (pw_and (bR HX (bL (cV K rfl) (pv 12) ae (fun _ _=>rfl)) eL (nomark _)) (pw_and1 (PW.pt (pw_or (Bi (aV (fz K rfl) (by rfl) T.a9 a8 (ax (bL (cV K rfl) (pv 12) ae (fun _ _=>rfl)) (ax (lW rfl T.sG tS) aq)))) (pw_or1 (uS (Bi (aV (fz K rfl) (by rfl) T.a9 a8 (ax (bL (cV K rfl) (pv 12) ae (fun _ _=>rfl)) (ax (lW rfl T.AI BQ) aq))))))))))) (fL ⟨(ba sX)⟩) ot)
 (a7 (fL ⟨(ba (bu (bM (bq K rfl HR.units) (pv 12) (pv 6) (nomark _)) (b9 (bM (bq K rfl HR.units) (cK (ax (bL (cV K rfl) (pv 9) ae (fun _ _=>rfl)) (ax (bL (cV K rfl) (pv 9) ae (fun _ _=>rfl)) (ax (pv 5) aq)))) (pv 11) (nomark _)))))⟩))))))))))))))))))))))))))))))))),?_⟩
   generalize h_ua:aR _=ua
   walk_at "wps"
   refine ⟨ns,hS,fun n0 v v0 v1=>?_⟩
   have ho:1≤1+v % 16∧1+v % 16≤16:=by omega
   have ht:1≤1+v / 16 % 16∧1+v / 16 % 16≤16:=by omega
   have hg:1≤1+v / 256 % 32∧1+v / 256 % 32≤32:=by omega
   rw [←h_ua,aR]
   generalize h_ub:aR _=ub
   walk_at "wps"
   generalize 1+v % 16=o at*
   generalize 1+v / 16 % 16=t at*
   intro p0 n_p0
   have e_p0:=aa (H:=H) (a:=p0) (o:=(.tup [.int o,.int t]))
   have s_p0:=ao (H:=H) (o:=(.tup [.int o,.int t])) n_p0
   generalize upd H p0 ((.tup [.int o,.int t]))=H1 at*
   replace hS:=lL s_p0 hS
   rw [←h_ub,aR]
   generalize h_uc:aR _=uc
   walk_at "wps"
   generalize 1+v / 256 % 32=g at*
   rw [←h_uc,aR]
   generalize h_ud:aR _=ud
   exists e_p0
   intro x dx nx ndx nex
   have s2:=lK (C:=bj) (fs:=[]) nx ndx
   have hgd:good 64 o t g 2 2:=⟨by omega,⟨ho,ht⟩,hg,by omega,by omega⟩
   refine ⟨o,t,dx,s2 _ _ e_p0,rfl,fun hn=>(hn hgd).elim,fun _ hlt=>?_,fun _ _ H2 B2 D3=>?_⟩
   ·
    exfalso
    unfold pX lZ at hlt
    split at hlt<;>split at hlt<;>(try split at hlt)<;>omega
   have S2:aW H1 H2:=fun b o' e=>B2 b o' (s2 b o' e) (av e nx)
   have hT:y6 bj H2 x 64 o t g 2 2:=⟨dx,p0,D3,S2 _ _ e_p0⟩
   replace hS:=lL S2 hS
   clear B2 s2 nx ndx nex D3 e_p0 n_p0 s_p0 S2
   rw [←h_ud,aR]
   generalize h_ue:aR _=ue
   walk_at "wps"
   refine FE hS fun p2 hp2=>?_
   obtain ⟨ms,em,hms⟩:=RD (ns:=ns)
   rw [em]
   have s3:=ao (o:= .lst (ms.map V.int)) hp2
   have e3:=aa (H:=H2) (a:=p2) (o:= .lst (ms.map V.int))
   generalize upd H2 p2 (.lst (ms.map V.int))=H3 at*
   refine tQ (xs:=ms.map V.int) (bU.of e3) (bh (by rw [List.length_map];omega)) (fun i ys σ H'=>aW H3 H'∧(∃zs ws,ys=zs.map V.ref∧Paired (C9 H') zs ws∧ws.length=i∧goodW ws)∧∃v,σ= [v]) ⟨aW.refl _,⟨[],[],rfl,.nil,rfl,fun _ h=>absurd h List.not_mem_nil⟩,_,rfl⟩ (fun i ys σ H' hh=>by obtain ⟨_,⟨zs,ws,rfl,hz,hw,_⟩,_⟩:=hh;rw [List.length_map,bz hz];omega) (fun i ys σ H' hh=>bU.of (hh.1 _ _ e3)) (fun i y ys σ H' hy hh=>?_) (fun ys σ H4 hh=>?_)
   ·
    obtain ⟨sm,⟨zs,ws,rfl,hz,hw,hgw⟩,v',rfl⟩:=hh
    obtain ⟨cc,rfl⟩:=K7 hy
    walk_at "wps"
    refine fun x w H7 sm7 hW hb=>⟨fun b o e=>sm7 _ _ (sm b o e),⟨zs++ [x],ws++ [w],by simp,fq (aP hz fun a b h=>h.same sm7) hW,by rw [List.length_append,List.length_singleton,hw],fun w' hw'=>?_⟩,_,rfl⟩
    rcases List.mem_append.mp hw' with e|e
    ·exact hgw w' e
    ·rw [List.mem_singleton.mp e];exact hb
   obtain ⟨s4,⟨zs,ws,rfl,hz,hwl,hgw⟩,v',eσ⟩:=hh
   rw [List.length_map] at hwl
   have zl:=bz hz
   have S4:aW H2 H4:=fun b o e=>s4 _ _ (s3 b o e)
   replace hS:=lL S4 hS
   replace hT:=hT.same S4
   clear s3 s4 e3 hp2 em S4 eσ
   refine ⟨bh (by rw [List.length_map];omega),fun wl nwl=>?_⟩
   have s5:=ao (o:= .lst (zs.map V.ref)) nwl
   have e5:=aa (H:=H4) (a:=wl) (o:= .lst (zs.map V.ref))
   have hW:qu (upd H4 wl (.lst (zs.map V.ref))) wl ws:=⟨zs,e5,aP hz fun a b h=>h.same s5,by omega⟩
   clear e5 hz
   have B5:cm wl H4 (upd H4 wl (.lst (zs.map V.ref))):=fun b o e _=>s5 b o e
   clear s5
   generalize upd H4 wl (.lst (zs.map V.ref))=H5 at*
   have hl60:ws.length≤60:=by omega
   clear hwl hms zl
   rw [←h_ue,aR]
   generalize h_uf:aR _=uf
   walk_at "wps"
   intro dp ndp
   have s6:=ao (o:=HO.tup [V.str (Str.ofString "walk"),V.non,V.bl true]) ndp
   have e6:=aa (H:=H5) (a:=dp) (o:=HO.tup [V.str (Str.ofString "walk"),V.non,V.bl true])
   generalize upd H5 dp (HO.tup [V.str (Str.ofString "walk"),V.non,V.bl true])=H6 at*
   replace hW:=hW.same s6
   have B6:cm wl H4 H6:=fun b o e n=>s6 _ _ (B5 b o e n)
   clear s6 B5 ndp
   have S6:aW H4 H6:=fun b o e=>B6 b o e (av e nwl)
   clear B6
   rw [←h_uf,aR]
   generalize h_ug:aR _=ug
   walk_at "wps"
   refine ⟨ns,lL S6 hS,fun odd=>?_⟩
   refine CK fun DD eDD=>?_
   rw [←h_ug,aR]
   generalize h_uh:aR _=uh
   generalize h_ui:aR _=ui
   refine ⟨fun σ' H'=> ∃wl ws dp k v',σ'= [some (V.ref a),some (V.int v),some (V.ref p0),some (V.int g),some (V.ref x),some (V.ref wl),some (V.ref dp),some (V.int odd),none,none,none,none,none]∧aW H4 H'∧H4 wl=none∧qu H' wl ws∧H' dp=some (.tup [.str k,v',.bl true])∧Due ws k v'∧(3<odd % 8→ws.length≤60∧goodW ws),?_,?_⟩
   ·
    have hW':=hW
    obtain ⟨zs,z1,z2,z3⟩:=hW'
    have zl:=bz z2
    have lm:(zs.map V.ref).length=zs.length:=List.length_map ..
    exists z1
    refine BC (fun c=>⟨⟨by omega,by omega⟩,?_⟩) (fun c=>⟨wl,ws,dp,"walk",.non,rfl,S6,nwl,hW,e6,.inl ⟨rfl,rfl,hl60,hgw⟩,fun _=>⟨hl60,hgw⟩⟩)
    obtain ⟨n,en,hn1,hn2⟩: ∃n:Nat,(61+odd / 16 % 9 - ((zs.map V.ref).length:Int)).toNat=n∧60<ws.length+n∧n≤69:=⟨_,rfl,by rw [List.length_map];omega,by omega⟩
    rw [en]
    refine Lv (fun i ys σ H'=>aW H6 H'∧(∃qs vs,ys=qs.map V.ref∧Paired (C9 H') qs vs∧vs.length=i∧goodW vs)∧∃v,σ= [v,some (.int odd)]) ⟨aW.refl _,⟨[],[],rfl,.nil,rfl,fun _ h=>absurd h List.not_mem_nil⟩,_,rfl⟩ (bh (by omega)) (fun i ys σ H' hh=>by obtain ⟨_,⟨zs,ws,rfl,hz,hw,_⟩,_⟩:=hh;rw [List.length_map,bz hz];omega) (fun i ys σ H' hi hh=>?_) (fun ys σ H7 hh=>?_)
    ·
     obtain ⟨sm,⟨qs,vs,rfl,hz,hw,hgv⟩,v',rfl⟩:=hh
     walk_at "wps"
     exact fun p np=>⟨sm.trans (ao np),⟨qs++ [p],vs++ [(0+(i:Int),odd / 8 % 2,Str.ofString "begin",.non)],by simp,fq (aP hz fun a b h=>h.same (ao np)) ⟨aa,.inl rfl⟩,by rw [List.length_append,List.length_singleton,hw],Ay hgv (Gz (pA ⟨by omega,by omega⟩ ⟨by omega,by omega⟩ (by decide+kernel)))⟩,_,rfl⟩
    ·
     obtain ⟨sm,⟨qs,vs,rfl,hz,hw,hgv⟩,v',rfl⟩:=hh
     have ql:=bz hz
     refine ⟨bh (by rw [List.length_map];omega),fun l nl=>?_⟩
     have s8:=sm.trans (ao (o:= .lst (qs.map V.ref)) nl)
     refine fo (s8 _ _ z1) aa (by rw [sizeLine_eq,List.length_map,List.length_map];omega) fun w2 nw2=>?_
     have s9:=s8.trans (ao (o:= .lst (zs.map V.ref++qs.map V.ref)) nw2)
     have e9:=aa (H:=upd H7 l (.lst (qs.map V.ref))) (a:=w2) (o:= .lst (zs.map V.ref++qs.map V.ref))
     have hz9:=aP hz fun a b h=>(h.same (ao (o:= .lst (qs.map V.ref)) nl)).same (ao (o:= .lst (zs.map V.ref++qs.map V.ref)) nw2)
     generalize upd (upd H7 l (.lst (qs.map V.ref))) w2 (.lst (zs.map V.ref++qs.map V.ref))=H9 at*
     rw [←h_uh,aR]
     walk_at "wps"
     intro d2 nd2
     have s10:=ao (o:=HO.tup [V.str (Str.ofString "wish"),V.int 60,V.bl true]) nd2
     exact ⟨w2,ws++vs,d2,_,_,rfl,fun b o e=>s10 _ _ (s9 _ _ (S6 b o e)),xQ (S6.trans s8) nw2,⟨zs++qs,by rw [List.map_append];exact s10 _ _ e9,oA (aP z2 fun a b h=>(h.same s9).same s10) (aP hz9 fun a b h=>h.same s10),by rw [List.length_append];omega⟩,aa,.inr ⟨rfl,60,rfl,Lk (Ay hgw hgv) (by rw [List.length_append];omega)⟩,fun c'=>by omega⟩
   clear hW hgw hl60 e6 S6
   rintro σ1 H7 ⟨wl,ws,dp,k,v',rfl,S7,nwl,hW,hdp,hdue,hodd⟩
   rw [←h_ui,aR]
   generalize h_uj:aR _=uj
   generalize h_uk:aR _=uk
   refine ⟨fun σ' H'=> ∃ws dp k v' at',σ'= [some (V.ref a),some (V.int v),some (V.ref p0),some (V.int g),some (V.ref x),some (V.ref wl),some (V.ref dp),some (V.int odd),at',none,none,none,none]∧aW H4 H'∧qu H' wl ws∧H' dp=some (.tup [.str k,v',.bl true])∧Due ws k v',?_,?_⟩
   ·
    have hW':=hW
    obtain ⟨zs,z1,z2,z3⟩:=hW'
    have zl:=bz z2
    exists z1
    split
    ·
     rename_i c
     obtain ⟨hl60,hgw⟩:=hodd c
     obtain ⟨i,ei,hi⟩: ∃i:Nat,odd / 8 % (((zs.map V.ref).length:Int)+1)=(i:Int)∧i≤zs.length:=⟨(odd / 8 % (((zs.map V.ref).length:Int)+1)).toNat,by
      have:=Int.emod_nonneg (odd / 8) (show ((zs.map V.ref).length:Int)+1≠0 by omega)
      omega,by
      have:=Int.emod_lt_of_pos (odd / 8) (show 0<((zs.map V.ref).length:Int)+1 by omega)
      rw [List.length_map] at*
      omega⟩
     refine ⟨by omega,?_⟩
     rw [ei]
     rw [←h_uj,aR]
     generalize h_ul:aR _=ul
     exists z1
     refine ⟨sJ (bU.of z1),fun x1 w1 H9 s9 hw1 hb1 n1 n10 n11=>⟨w1,hw1,hb1,⟨n10,n11⟩,fun y w' H10 s10 hy hyb=>?_⟩⟩
     have s11:=s9.trans s10
     refine ⟨wl,_,_,_,rfl,rfl,s11 _ _ z1,by omega,by omega,by rw [sizeLine_eq,List.length_map];omega,?_⟩
     rw [Int.toNat_natCast]
     have BB:cm wl H10 (upd H10 wl (HO.lst (List.take i (List.map V.ref zs)++V.ref y::List.drop i (List.map V.ref zs)))):=cm.upd
     have e13:upd H10 wl (HO.lst (List.take i (List.map V.ref zs)++V.ref y::List.drop i (List.map V.ref zs))) wl=some (.lst ((zs.take i++y::zs.drop i).map V.ref)):=by
      rw [List.map_append,List.map_cons,List.map_take,List.map_drop];exact aa
     generalize upd H10 wl (HO.lst (List.take i (List.map V.ref zs)++V.ref y::List.drop i (List.map V.ref zs)))=H13 at*
     have z10:=s11 _ _ z1
     have wb: ∀b w,C9 H10 b w→C9 H13 b w:=fun b w h=>⟨BB _ _ h.1 (fun z=>by have h1:=h.1;rw [z,z10] at h1;cases h1),h.2⟩
     have hz10:=aP z2 fun b w h=>wb b w (h.same s11)
     have S13:aW H4 H13:=fun b o e=>BB _ _ (s11 _ _ (S7 b o e)) (av e nwl)
     show ul _ _ H13
     rw [←h_ul,aR]
     walk_at "wps"
     intro d2 nd2
     have s14:=ao (o:=HO.tup [V.str (Str.ofString "wish"),V.int i,V.bl true]) nd2
     exact ⟨ws.take i++w'::ws.drop i,d2,_,_,_,rfl,S13.trans s14,⟨zs.take i++y::zs.drop i,s14 _ _ e13,oA (vZ (aP hz10 fun b w h=>h.same s14) i) (.cons ((wb _ _ hy).same s14) (v_ (aP hz10 fun b w h=>h.same s14) i)),by rw [List.length_append,List.length_cons,List.length_take,List.length_drop];omega⟩,aa,.inr ⟨rfl,i,rfl,D8 (by omega) hl60 hgw hyb⟩⟩
    ·exact ⟨ws,dp,k,v',none,rfl,S7,hW,hdp,hdue⟩
   clear hW hodd hdue hdp S7
   rintro σ1 H8 ⟨ws,dp,k,v',at',rfl,S8,hW,hdp,hdue⟩
   rw [←h_uk,aR]
   generalize h_um:aR _=um
   walk_at "wps"
   refine ⟨ns,lL S8 hS,fun m1=>⟨hg,fun pa da H9 s9 rA lA okA=>⟨ns,lL (S8.trans s9) hS,fun m2=>⟨hg,fun pb db H10 s10 rB lB okB rd nrd=>?_⟩⟩⟩⟩
   obtain ⟨npa,xa,a1,a2,la9⟩:=rA
   obtain ⟨npb,xb,b1,b2,lb9⟩:=rB
   have s11:=ao (o:=HO.tup [V.ref pa,V.ref pb]) nrd
   have e11:=aa (H:=H10) (a:=rd) (o:=HO.tup [V.ref pa,V.ref pb])
   have S11:=(s9.trans s10).trans s11
   have A1:=s11 _ _ (s10 _ _ a1)
   have A2:=aP a2 fun b d h=>((h.2.same s10).same s11:bP (upd H10 rd (HO.tup [V.ref pa,V.ref pb])) b d)
   have B1:=s11 _ _ b1
   have B2:=aP b2 fun b d h=>(h.2.same s11:bP (upd H10 rd (HO.tup [V.ref pa,V.ref pb])) b d)
   have neA: ∀b∈xa,b≠pb:=fun b hb=>by
    obtain ⟨d,h⟩:=oy a2 b hb
    obtain ⟨cs,c1,_⟩:=h.2
    exact av c1 npb
   have neB: ∀b∈xb,b≠pa:=fun b hb=>by
    obtain ⟨d,h⟩:=oy b2 b hb
    exact (av a1 h.1).symm
   have nab:pa≠pb:=av a1 npb
   have ra:lV g da:=fun d hd=>(okA d hd).2
   have rb:lV g db:=fun d hd=>(okB d hd).2
   have npb8:H8 pb=none:=xQ s9 npb
   generalize upd H10 rd (HO.tup [V.ref pa,V.ref pb])=H11 at*
   clear s9 s10 s11 a1 a2 b1 b2 npb nrd okA okB la9 lb9
   have out:C7 g da db ws k v':=by
    rcases hdue with ⟨d1,d2,d3,d4⟩|⟨d1,i,d2,d3⟩
    ·exact .inr (.inr ⟨d1,d2,ra,rb,d3,d4⟩)
    ·exact .inr (.inl ⟨d1,ra,rb,i,d2,d3⟩)
   replace hS:=lL S8 hS
   replace hT:=hT.same S8
   replace hdp:=S11 _ _ hdp
   clear hdue S8 nwl
   rw [←h_um,aR]
   generalize h_un:aR _=un
   obtain ⟨M,eM⟩: ∃M:St→Hp→Prop,M=fun σ' H'=> ∃dp k v' db xb,σ'= [some (V.ref a),some (V.int v),some (V.ref p0),some (V.int g),some (V.ref x),some (V.ref wl),some (V.ref dp),some (V.int odd),at',some (V.ref rd),some (V.int (v / 8192 % 8)),none,none]∧aW H8 H'∧H' rd=some (HO.tup [V.ref pa,V.ref pb])∧H' pa=some (.lst (xa.map V.ref))∧Paired (bP H') xa da∧H' pb=some (.lst (xb.map V.ref))∧Paired (bP H') xb db∧(∀b∈xb,b≠pa)∧db.length≤7∧H' dp=some (.tup [.str k,v',.bl true])∧C7 g da db ws k v':=⟨_,rfl⟩
   refine ⟨M,?_,?_⟩
   ·
    exists e11
    refine BC (fun c=>?_) (fun c=>by rw [eM];exact ⟨dp,k,v',db,xb,rfl,S11,e11,A1,A2,B1,B2,neB,by omega,hdp,out⟩)
    intro n1 n10 n11
    refine ⟨⟨n10,n11⟩,hg,db,xb,B1,B2,lB,rb,fun i db2 xb2 H12 Bb b3 b4 b5 b6 fb d2 nd2=>?_⟩
    have s12:=ao (o:=HO.tup [V.str (Str.ofString "road"),V.int i,V.bl true]) nd2
    have e12:=aa (H:=H12) (a:=d2) (o:=HO.tup [V.str (Str.ofString "road"),V.int i,V.bl true])
    generalize upd H12 d2 (HO.tup [V.str (Str.ofString "road"),V.int i,V.bl true])=H13 at*
    have nrb:rd≠pb:=fun z=>by rw [z,B1] at e11;cases e11
    rw [eM]
    exact ⟨d2,_,_,db2,xb2,rfl,fun b o e=>s12 _ _ (Bb _ _ (S11 b o e) (av e npb8)),s12 _ _ (Bb _ _ e11 nrb),s12 _ _ (Bb _ _ A1 nab),aP (xI A2 Bb neA B1) fun b d h=>h.same s12,s12 _ _ b3,aP b4 fun b d h=>h.same s12,fun b hb=>(b5 b hb).elim (neB b) (fun e=>(av A1 e).symm),b6,e12,.inl ⟨rfl,i,rfl,.inr ⟨ra,fb⟩⟩⟩
   rw [eM]
   clear eM M
   clear hdp out neB B1 B2 A1 A2 e11 S11 rb lB
   clear db xb dp k v'
   rintro σ1 H12 ⟨dp,k,v',db,xb,rfl,S12,e12,A3,A4,B3,B4,neB,lB,hdp,out⟩
   rw [←h_un,aR]
   generalize h_uo:aR _=uo
   obtain ⟨M,eM⟩: ∃M:St→Hp→Prop,M=fun σ' H'=> ∃dp k v' da,σ'= [some (V.ref a),some (V.int v),some (V.ref p0),some (V.int g),some (V.ref x),some (V.ref wl),some (V.ref dp),some (V.int odd),at',some (V.ref rd),some (V.int (v / 8192 % 8)),none,none]∧aW H8 H'∧H' rd=some (HO.tup [V.ref pa,V.ref pb])∧nq H' pa da∧nq H' pb db∧da.length≤7∧H' dp=some (.tup [.str k,v',.bl true])∧C7 g da db ws k v':=⟨_,rfl⟩
   refine ⟨M,?_,?_⟩
   ·
    exists e12
    refine BC (fun c=>?_) (fun c=>by rw [eM];exact ⟨dp,k,v',da,rfl,S12,e12,⟨xa,A3,A4,by omega⟩,⟨xb,B3,B4,by omega⟩,by omega,hdp,out⟩)
    intro n1 n10 n11
    refine ⟨⟨n10,n11⟩,hg,da,xa,A3,A4,lA,ra,fun i da2 xa2 H13 Ba b3 b4 b5 b6 fb d2 nd2=>?_⟩
    have s12:=ao (o:=HO.tup [V.str (Str.ofString "road"),V.int i,V.bl true]) nd2
    have e13:=aa (H:=H13) (a:=d2) (o:=HO.tup [V.str (Str.ofString "road"),V.int i,V.bl true])
    generalize upd H13 d2 (HO.tup [V.str (Str.ofString "road"),V.int i,V.bl true])=H14 at*
    have nra:rd≠pa:=fun z=>by rw [z,A3] at e12;cases e12
    rw [eM]
    exact ⟨d2,_,_,da2,rfl,fun b o e=>s12 _ _ (Ba _ _ (S12 b o e) (av e npa)),s12 _ _ (Ba _ _ e12 nra),⟨xa2,s12 _ _ b3,aP b4 fun b d h=>h.same s12,by omega⟩,⟨xb,s12 _ _ (Ba _ _ B3 nab.symm),aP (xI B4 Ba neB A3) fun b d h=>h.same s12,by omega⟩,b6,e13,.inl ⟨rfl,i,rfl,.inl fb⟩⟩
   rw [eM]
   clear eM M
   clear hdp out neB A3 A4 e12 S12 ra lA B3 B4 neA
   clear da dp k v' xa
   rintro σ1 H13 ⟨dp,k,v',da,rfl,S13,e13,rA,rB,lA,hdp,out⟩
   rw [←h_uo,aR]
   generalize h_up:aR _=up
   exists e13
   refine CY rA fun za H14 s14 ca=>⟨bh (by rw [List.length_map,bz ca];omega),fun la nla=>?_⟩
   have S14:=s14.trans (ao (o:= .lst (za.map V.ref)) nla)
   have cA:nq (upd H14 la (.lst (za.map V.ref))) la da:=⟨za,aa,aP ca fun b d h=>h.same (ao nla),by omega⟩
   replace e13:=S14 _ _ e13
   replace rA:=rA.same S14
   replace rB:=rB.same S14
   replace hdp:=S14 _ _ hdp
   replace S13:=S13.trans S14
   generalize upd H14 la (.lst (za.map V.ref))=H15 at*
   clear s14 ca nla S14
   exists e13
   refine CY rB fun zb H16 s16 cb=>⟨bh (by rw [List.length_map,bz cb];omega),fun lb nlb=>?_⟩
   have S16:=s16.trans (ao (o:= .lst (zb.map V.ref)) nlb)
   have cB:nq (upd H16 lb (.lst (zb.map V.ref))) lb db:=⟨zb,aa,aP cb fun b d h=>h.same (ao nlb),by omega⟩
   replace e13:=S16 _ _ e13
   replace rA:=rA.same S16
   replace rB:=rB.same S16
   replace cA:=cA.same S16
   replace hdp:=S16 _ _ hdp
   replace S13:=S13.trans S16
   generalize upd H16 lb (.lst (zb.map V.ref))=H17 at*
   clear s16 cb nlb S16
   have hW17:=hW.same S13
   obtain ⟨zw,w1,w2,w3⟩:=hW17
   refine ⟨_,.inl (bU.of w1),fun lw nlw bf nbf=>?_⟩
   have S18:=ao (o:= .lst (zw.map V.ref)) nlw
   have S19:=S18.trans (ao (o:= .tup [V.ref la,V.ref lb,V.ref lw]) nbf)
   have cW:qu (upd (upd H17 lw (.lst (zw.map V.ref))) bf (.tup [V.ref la,V.ref lb,V.ref lw])) lw ws:=⟨zw,mC aa nbf,aP w2 fun b d h=>h.same S19,w3⟩
   have ebf:=aa (H:=upd H17 lw (.lst (zw.map V.ref))) (a:=bf) (o:= .tup [V.ref la,V.ref lb,V.ref lw])
   replace e13:=S19 _ _ e13
   replace rA:=rA.same S19
   replace rB:=rB.same S19
   replace cA:=cA.same S19
   replace cB:=cB.same S19
   replace hdp:=S19 _ _ hdp
   replace S13:=S13.trans S19
   generalize upd (upd H17 lw (.lst (zw.map V.ref))) bf (.tup [V.ref la,V.ref lb,V.ref lw])=H19 at*
   clear S18 S19 nlw nbf w1 w2
   rw [←h_up,aR]
   generalize h_uq:aR _=uq
   walk_at "wps"
   refine ⟨64,o,t,g,2,2,pa,pb,da,db,ws,hT.same S13,hgd,e13,rA,rB,⟨by omega,by omega⟩,hW.same S13,fun fd k2 v2 H20 s20 hfd out2=>?_⟩
   obtain ⟨ek,ev⟩:=out.det out2
   have hv:v2 = .non∨∃i:Nat,v2 = .int i:=by
    rcases out2 with ⟨_,i,e,_⟩|⟨_,_,_,i,e,_⟩|⟨_,e,_⟩
    ·exact .inr ⟨i,e⟩
    ·exact .inr ⟨i,e⟩
    ·exact .inl e
   subst ek ev
   replace e13:=s20 _ _ e13
   replace rA:=rA.same s20
   replace rB:=rB.same s20
   replace cA:=cA.same s20
   replace cB:=cB.same s20
   replace cW:=cW.same s20
   replace hdp:=s20 _ _ hdp
   replace ebf:=s20 _ _ ebf
   have hW20:=hW.same (S13.trans s20)
   clear s20 S13 out out2
   rw [←h_uq,aR]
   generalize h_ur:aR _=ur
   have fin:ur DD [some (V.ref a),some (V.int v),some (V.ref p0),some (V.int g),some (V.ref x),some (V.ref wl),some (V.ref dp),some (V.int odd),at',some (V.ref rd),some (V.int (v / 8192 % 8)),some (V.ref bf),some (V.ref fd)] H20:=by
    have dv: ∀H',Dn K H' 0 v' (dtV v'):=fun H'=>by
     rcases hv with rfl|⟨i,rfl⟩
     ·exact JH (.inl rfl)
     ·exact JH (.inr (.inl ⟨_,rfl⟩))
    rw [←h_ur,aR]
    exists e13
    refine ⟨1,_,_,by decide,vD hfd (.cons D9 (.cons (dv _) (.cons O7 .nil))),vD hdp (.cons D9 (.cons (dv _) (.cons O7 .nil))),.inl ⟨rfl,?_⟩⟩
    exists e13
    intro p np
    have s21:=ao (o:=HO.tup [V.ref pa,V.ref pb,V.ref wl]) np
    refine ⟨4,_,_,by decide,vD aa (.cons (rA.same s21).dn (.cons (rB.same s21).dn (.cons ((hW20.same s21).dn.up (by decide)) .nil))),vD (s21 _ _ ebf) (.cons (cA.same s21).dn (.cons (cB.same s21).dn (.cons ((cW.same s21).dn.up (by decide)) .nil))),.inl ⟨rfl,?_⟩⟩
    rw [eDD]
    exact q _
   rcases hv with rfl|⟨i,rfl⟩
   ·
    exists hfd
    exact fin
   ·
    exists hfd
    exact fin
  ·exact h.elim
end
theorem fin {P:Program} {w:World} {K:PySem.W.Frag} {h:Heap} {mg:Str→Option Value} {fa:Addr} {ar ay af aI aO aY aT bj aQ aK aS aJ aw aD aB aL aG az lx aC aj aE aF ah ag ai:Addr} (KX:K.In h) (G:h.Ns mainGlobals mg) (hmg:mg "law" = some (.ref fa)) (T:Txt K mg ar ay af aI aO aY aT bj aQ aK aS aJ aw aD aB aL aG az lx aC aj aE aF ah ag ai):
  ∃fd:FuncData,(∀(s:Shared) (u:Value),BindsTo s fd ⟨[u],[]⟩ [("_law_script",u)])∧∀base:Heap,K.In base→base.Ns mainGlobals mg→vT P w K mg base RS 10 fa fd ["_law_script"] (Al K):=
 law_fin hmg T.Fd JJ fun base=>Qm T
end K70
open PySem PySem.W PyProof.Rows
noncomputable def PySem.W.Fast.tw8777086267325499200:PySem.Program:=PySem.Challenge.pw_slowroad_k70_bad_wishes
theorem PySem.W.Fast.te8777086267325499200:PySem.Challenge.pw_slowroad_k70_bad_wishes=PySem.W.Fast.tw8777086267325499200:=rfl
set_option maxRecDepth 100000 in
set_option maxHeartbeats 0 in
theorem PySem.Challenge.cw_slowroad_k70_bad_wishes_holds : PySem.Challenge.rw_slowroad_k70_bad_wishes.Holds := by
 w_on;o_law
 refine holds_open (q:=K70.cN) (loose:=[]) (Xt:=fun s=>xlAt K70.cN [] s&&recOk (RowW.records (OpenRow.toRowW (OpenLaw.row PySem.Challenge.rw_slowroad_k70_bad_wishes))) s) (XP:=XL K70.cN []) (Yf:=Hook.obs (kHook K70.Aw K70.ft K70.tw)) (Ya:=Hook.val (kHook K70.Aw K70.ft K70.tw)) (YP:=Hook.says (kHook K70.Aw K70.ft K70.tw)) (N:=20998) K70.aaH (Hook.of (kHook K70.Aw K70.ft K70.tw)) (Hook.keeps (kHook K70.Aw K70.ft K70.tw)) (fun s e=>xl_of s (Bool.and_eq_true_iff.mp e).1) XL.keeps (by rfl) (by rfl) (by rfl) (fun s e=>recFacts_of (Bool.and_eq_true_iff.mp e).2) (by rfl) (by first|assumption|decide+kernel) (by decide+kernel) ⟨rfl,rfl,rfl,rfl,rfl,by decide+kernel⟩ ?hw ?hc
 case hw=>w_witness2
 k_fill
 refine L2.Ip (l:=PySem.Challenge.rw_slowroad_k70_bad_wishes) (k:=10) (x:="_law_script") rfl rfl ⟨rfl,by decide,by decide⟩ (fun w h Y=>PySem.W.kIn_of Y) ?F
 case F=>
  intro w mg fa h KX G hmg
  refine' K70.fin KX G hmg ?TT
  case TT=>
   refine' K70.Txt.mk ?oO ?oI ?l8 ?oJ ?kK ?rZ ?l5 ?mY ?mX ?pT ?bG ?m7 ?m6 ?l6 ?cD ?jU ?lj ?m8 ?l7 ?cM ?cL ?cT ?dM ?jW ?oF ?oE ?mI ?mH ?oG ?cq ?pU ?pV ?ll ?b_ ?lp ?cQ ?gF ?oN ?oH ?kJ ?jV ?bN ?lh ?oB ?oC ?mZ ?dc ?df ?mG ?mF ?jZ ?bY ?dg ?dY ?j0 ?jT ?d6 ?k8 ?xU ?z_ ?xT ?nK ?vU ?xR ?xV ?Aa ?nJ ?Ac ?vc ?yw ?iF ?rN ?dF ?dP ?f_ ?gY ?i_ ?jy ?f9 ?gX ?gf ?g7 ?ez ?eT ?f7 ?gW ?gc ?g0 ?ja ?jz ?gb ?gZ ?Cd ?yA ?Au ?j9 ?uQ ?ee ?eP ?iT ?jj ?kE ?kL ?iS ?ji ?iW ?jm ?fM ?gG ?iR ?jh ?iV ?jl ?kG ?kM ?iU ?jk ?Ab ?vb ?yu ?kb ?rM ?dE ?dO ?fW ?gR ?i8 ?jw ?fV ?gQ ?fZ ?gU ?et ?eS ?fU ?gP ?fY ?gT ?i9 ?jx ?fX ?gS ?nr ?qB ?oM ?dX ?rQ ?dJ ?dU ?gB ?ie ?jf ?jE ?gA ?ic ?gE ?ip ?eK ?e_ ?gz ?ib ?gD ?ij ?jg ?jF ?gC ?ig ?nL ?r9 ?pQ ?cS ?cU ?eF ?eY ?gx ?h_ ?eE ?eX ?eJ ?e8 ?dI ?dS ?eC ?eW ?eI ?e7 ?gy ?ia ?eG ?eZ ?qw ?va ?rX ?c8 ?rL ?dC ?dN ?fP ?gJ ?iX ?jn ?fO ?gI ?fS ?gM ?eg ?eQ ?fN ?gH ?fR ?gL ?iY ?jo ?fQ ?gK ?Ae ?vd ?rP ?dH ?dR ?gr ?h6 ?jd ?jC ?gq ?hZ ?gw ?h9 ?eB ?eV ?gp ?hX ?gv ?h8 ?je ?jD ?gu ?h7 ?Ce ?yB ?Av ?j_ ?lG ?uR ?eh ?eR ?i4 ?js ?kH ?kN ?i3 ?jr ?i7 ?jv ?fT ?gN ?iZ ?jq ?i6 ?ju ?kI ?kO ?i5 ?jt ?qx ?qA ?rY ?dW ?rO ?dG ?dQ ?gj ?g_ ?jb ?jA ?gi ?g9 ?gn ?hV ?eA ?eU ?gg ?g8 ?gm ?hU ?jc ?jB ?gk ?hJ ?EZ ?BA ?u_ ?D0 ?D1 ?u0 ?uZ ?u9 ?By ?yq ?EV ?EW ?yo ?yn ?yp ?vI ?fh ?fc ?ff ?jM ?kQ ?iy ?nh ?ml ?qk ?mr ?qm ?qo ?mm ?mj ?mq ?jK ?vH ?kU ?qp ?oY ?yX ?vK ?vJ ?oR ?kT ?jL ?vG ?sD ?mf ?ma ?vF ?kS ?ng ?oX ?cZ ?qj ?kR ?jI ?Ea ?qg ?qf ?jJ ?mi ?oV ?qi ?qh ?oS ?oW ?oU ?mh ?Fd ?wk ?sG ?mL ?AI ?a9 ?k6 ?o5 ?Fg ?JK ?qH ?C3 ?tY ?tR ?j7 ?jP ?o3 ?nk ?oZ ?sE ?BP ?nj ?jN ?qt ?qr ?iz ?jO ?cy ?qq
   case oO|rZ|bG|jW|cq|oN|bN|bY|EZ|BA|u_|D0|D1|u0|uZ|u9=>refine' L2.Ir KX G ?a ?pg ?hd ?po ?sa ?mk ?kc;(case a=>k_is);(case pg=>k_is);(case hd=>k_is);(case po=>k_is);(case sa=>k_is);(case mk=>k_is);(case kc=>k_is)
   case oI|l8|oJ|kK|l5|mY|mX|pT|m7|m6|l6|cD|jU|lj|m8|l7|cM|cL|cT|dM|oF|oE|mI|mH|oG|pU|pV|ll|b_|lp|cQ|gF|oH|kJ|jV|lh|oB|oC|mZ|dc|df|mG|mF|jZ|dg|dY|j0|jT|d6=>refine' L2.Gj ?a;(case a=>k_is)
   case k8|xU|z_|xT|nK|vU|xR|xV|Aa|nJ=>refine' L2.JT KX G ?a ?t ?b;(case a=>k_is);(case t=>k_is);(case b=>k_is)
   case Ac|Cd|Ab|nr|qw|Ce|qx=>refine' ⟨_,L2.Eu KX G ?a ?l ?o ?i ?t ?l2 ?o2 ?i2 ?t2⟩;(case a=>k_is);(case l=>k_is);(case o=>kernel_rfl);(case i=>k_is);(case t=>k_is);(case l2=>k_is);(case o2=>kernel_rfl);(case i2=>k_is);(case t2=>k_is)
   case vc|yA|vb|qB|r9|va|vd|yB|qA=>refine' L2.JU ?a ?b ?c ?d ?e ?f ?g ?h;(case a=>k_is);(case b=>k_is);(case c=>k_is);(case d=>k_is);(case e=>k_is);(case f=>k_is);(case g=>k_is);(case h=>k_is)
   case yw|Au|yu|oM|rX|Av|rY=>k_is
   case iF|j9|kb|dX|c8|j_|lG|dW=>refine' ⟨?a,?b⟩;(case a=>k_is);(case b=>k_is)
   case rN|dF|f_|i_|f9|gf|ez|f7|gc|ja|gb|uQ|ee|iT|kE|iS|iW|fM|iR|iV|kG|iU|rM|dE|fW|i8|fV|fZ|et|fU|fY|i9|fX|rQ|dJ|gB|jf|gA|gE|eK|gz|gD|jg|gC|pQ|cS|eF|gx|eE|eJ|dI|eC|eI|gy|eG|rL|dC|fP|iX|fO|fS|eg|fN|fR|iY|fQ|rP|dH|gr|jd|gq|gw|eB|gp|gv|je|gu|uR|eh|i4|kH|i3|i7|fT|iZ|i6|kI|i5|rO|dG|gj|jb|gi|gn|eA|gg|gm|jc|gk=>kit_is
   case dP|gY|jy|gX|g7|eT|gW|g0|jz|gZ|eP|jj|kL|ji|jm|gG|jh|jl|kM|jk|dO|gR|jw|gQ|gU|eS|gP|gT|jx|gS|dU|ie|jE|ic|ip|e_|ib|ij|jF|ig|cU|eY|h_|eX|e8|dS|eW|e7|ia|eZ|dN|gJ|jn|gI|gM|eQ|gH|gL|jo|gK|dR|h6|jC|hZ|h9|eV|hX|h8|jD|h7|eR|js|kN|jr|jv|gN|jq|ju|kO|jt|dQ|g_|jA|g9|hV|eU|g8|hU|jB|hJ=>refine' (show PySem.W.mroIn _ _ _=_ from ?a);(case a=>k_is)
   case nL|Ae=>refine' L2.Eu KX G ?a ?l ?o ?i ?t ?l2 ?o2 ?i2 ?t2;(case a=>k_is);(case l=>k_is);(case o=>kernel_rfl);(case i=>k_is);(case t=>k_is);(case l2=>k_is);(case o2=>kernel_rfl);(case i2=>k_is);(case t2=>k_is)
   case By|yq|EV|EW|yo|yn|yp=>refine' L2.Ia ?a;(case a=>k_is)
   case vI|vH|yX|vK|vJ|oR|vG|sD|mf|ma|vF|Ea|qg|qf|mi|oV|qi|qh|oS|oW|oU|mh|Fd=>refine' L2.Jz KX G ?a ?l ?c ?k;(case a=>k_is);(case l=>k_is);(case c=>k_is);(case k=>k_is)
   case fh|fc|ff|jM|kQ|iy|nh|ml|qk|mr|qm|qo|mm|mj|mq|jK|kU|qp|oY|kT|jL|kS|ng|oX|cZ|qj|kR|jI|jJ=>refine' L2.Gn ?a ?i ?l ?c ?k;(case a=>k_is);(case i=>k_is);(case l=>k_is);(case c=>k_is);(case k=>k_is)
   case wk|sG|mL|AI|a9|k6|o5|Fg|JK|qH|C3|tY=>refine' PySem.W.mg_none_of KX G ?a;(case a=>k_is)
   case tR|j7|jP|o3|nk|oZ|sE|nj|jN|qt|qr|iz|jO|cy|qq=>refine' ⟨_,PySem.W.mg_of KX G ?a,?r⟩;(case a=>k_is);(case r=>exact ⟨_,rfl⟩)
   case BP=>refine' L2.GV KX G ?a ?l ?c ?d ?e ?z ?r;(case a=>k_is);(case l=>k_is);(case c=>rfl);(case d=>rfl);(case e=>rfl);(case z=>decide);(case r=>exact .cons ⟨_,rfl⟩ (.cons ⟨_,rfl⟩ (.nil)))
#print axioms PySem.Challenge.cw_slowroad_k70_bad_wishes_holds
