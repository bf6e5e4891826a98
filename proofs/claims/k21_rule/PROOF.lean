import PyProof.Rows.All
import Wide.All
import OpenK.AllK
import Wide.FinOn
import PyProof.EqAt
import PyProof.EqKinds
import PyProof.TupleCall
import PyProof.NeKinds
import PyProof.Rows.BitMore
import PyProof.FitsBits
import PyProof.Rows.TupAssign
import PyProof.ListRange
import PyProof.Rows.ZipGen
import PyProof.StationsW
import PyProof.ExcInit
import PyProof.ExcClass2
import PyProof.RulesTry
import PyProof.ExcBaseAll.ValueError
import PyProof.InstStoreFacts
import PyProof.RulesAs
import PyProof.RulesDel
import PyProof.ExcArgs
import KE.KUnpack
import PyProof.Draws
import PyProof.EnumMake
import KE.KMinBuiltin
import PyProof.OldK
import KE.KNest
import Lean
import PySem.Challenge.RW_slowroad_k21_rule
set_option maxRecDepth 100000
set_option maxHeartbeats 4000000
set_option Elab.async false
set_option linter.all false
set_option compiler.extract_closed false
namespace L2
open PySem PySem.Spec PyProof.Rows
noncomputable abbrev Key:=Sum Int Str
noncomputable def ll:Key→Value→Bool
 | .inl k,v=>Value.isInt k v
 | .inr x,v=>Value.isStrOf x v
noncomputable def oK (w:World):Key→Int
 | .inl k=>hashInt k
 | .inr x=>hashStr w x
theorem aA: ∀{k:Key} {v:Value},ll k v=true→(∃i t,k=Sum.inl i∧v=Value.int i t)∨(∃x t,k=Sum.inr x∧v=Value.str x t)
 | .inl i,v,h=>by
  obtain ⟨t,e⟩:=Value.isInt_shape (k:=i) (v:=v) h
  exact .inl ⟨i,t,rfl,e⟩
 | .inr x,v,h=>by
  obtain ⟨t,e⟩:=Value.isStrOf_shape (x:=x) (v:=v) h
  exact .inr ⟨x,t,rfl,e⟩
theorem mC (a b:Int):decide ((Sum.inl a:Key)=Sum.inl b)=(a == b):=by
 by_cases e:a=b
 ·subst e;simp
 ·
  have h: ¬(Sum.inl a:Key)=Sum.inl b:=fun q=>e (Sum.inl.inj q)
  rw [decide_eq_false h]
  exact (beq_eq_false_iff_ne.mpr e).symm
theorem mx (a b:Str):decide ((Sum.inr a:Key)=Sum.inr b)=decide (a=b):=by
 by_cases e:a=b
 ·subst e;simp
 ·
  have h: ¬(Sum.inr a:Key)=Sum.inr b:=fun q=>e (Sum.inr.inj q)
  rw [decide_eq_false h,decide_eq_false e]
theorem mB (a:Int) (b:Str):decide ((Sum.inl a:Key)=Sum.inr b)=false:=decide_eq_false (fun q=>nomatch q)
theorem my (a:Str) (b:Int):decide ((Sum.inr a:Key)=Sum.inl b)=false:=decide_eq_false (fun q=>nomatch q)
noncomputable def gC (prog:Program) (w:World):PySem.KeyKind prog w Key where
 is:=ll
 hash:=oK w
 inj:=fun v a b ha hb=>by
  rcases aA ha with ⟨i,t,rfl,rfl⟩|⟨x,t,rfl,rfl⟩
  ·
   rcases aA hb with ⟨j,u,rfl,e⟩|⟨y,u,rfl,e⟩
   ·injection e with e1 _;rw [e1]
   ·exact nomatch e
  ·
   rcases aA hb with ⟨j,u,rfl,e⟩|⟨y,u,rfl,e⟩
   ·exact nomatch e
   ·injection e with e1 _;rw [e1]
 byValue:=fun k v h=>by
  rcases aA h with ⟨i,t,rfl,rfl⟩|⟨x,t,rfl,rfl⟩<;>rfl
 pyHash:=fun hv h=>by
  rcases aA hv with ⟨i,t,rfl,rfl⟩|⟨x,t,rfl,rfl⟩
  ·exact wpAny_pyHash_int h
  ·exact wpAny_pyHash_str h
 eqBool:=fun hu hv h=>by
  rcases aA hu with ⟨i,t,rfl,rfl⟩|⟨x,t,rfl,rfl⟩
  ·
   rcases aA hv with ⟨j,u,rfl,rfl⟩|⟨y,u,rfl,rfl⟩
   ·rw [mC] at h;exact wpAny_eqBool_int h
   ·rw [mB] at h;exact SeqAt.EqAt.int_str i t y u _ _ _ _ h
  ·
   rcases aA hv with ⟨j,u,rfl,rfl⟩|⟨y,u,rfl,rfl⟩
   ·rw [my] at h;exact SeqAt.EqAt.str_int x t j u _ _ _ _ h
   ·rw [mx] at h;exact wpAny_eqBool_str h
 «strs» :=fun k x t v h=>by
  rcases aA h with ⟨i,u,rfl,e⟩|⟨y,u,rfl,e⟩
  ·exact nomatch e
  ·
   injection e with e1 _
   subst e1
   cases v<;>rfl
inductive V where
 |non|bl (b:Bool)|int (i:Int)|str (x:Str)|byt (b:Array UInt8)|flt (b:UInt64)|ref (a:Addr)|ty (n:String)
 deriving DecidableEq
def RelV:V→Value→Prop
 | .non,u=>u=Value.none
 | .bl b,u=>u=Value.bool b
 | .int i,u=> ∃t,u=Value.int i t
 | .str x,u=> ∃t,u=Value.str x t
 | .byt b,u=> ∃t,u=Value.bytes b t
 | .flt b,u=> ∃t,u=Value.float b t
 | .ref a,u=>u=Value.ref a
 | .ty n,u=>u=Value.type n
abbrev Vals:List V→List Value→Prop:=Paired RelV
theorem Vals.length {xs:List V} {us:List Value} (r:Vals xs us):xs.length=us.length:=Paired.length r
theorem Vals.get: ∀{xs:List V} {us:List Value} {i:Nat} {x:V},Vals xs us→xs[i]?=some x→∃u,us[i]?=some u∧RelV x u
 |_,_,_,_,.nil,e=>by simp at e
 |_,_,0,_,.cons r _,e=>by simp at e;subst e;exact ⟨_,rfl,r⟩
 |_,_,i+1,x,.cons _ t,e=>by
  obtain ⟨u,h1,h2⟩:=Vals.get (i:=i) (x:=x) t (by simpa using e)
  exact ⟨u,by simpa using h1,h2⟩
theorem Vals.append: ∀{xs ys:List V} {us ws:List Value},Vals xs us→Vals ys ws→Vals (xs++ys) (us++ws)
 |_,_,_,_,.nil,s=>s
 |_,_,_,_,.cons r t,s=> .cons r (Vals.append t s)
theorem Vals.take: ∀{xs:List V} {us:List Value} (n:Nat),Vals xs us→Vals (xs.take n) (us.take n)
 |_,_,0,_=> .nil
 |_,_,_+1,.nil=> .nil
 |_,_,n+1,.cons r t=> .cons r (Vals.take n t)
theorem Vals.drop: ∀{xs:List V} {us:List Value} (n:Nat),Vals xs us→Vals (xs.drop n) (us.drop n)
 |_,_,0,r=>r
 |_,_,_+1,.nil=> .nil
 |_,_,n+1,.cons _ t=>Vals.drop n t
def mW:Option V→Option Value→Prop
 |some v,some u=>RelV v u
 |none,none=>True
 |_,_=>False
def KV {κ:Type}:List (κ×V)→List (κ×Value)→Prop:=Paired fun (p:κ×V) (q:κ×Value)=>p.1=q.1∧RelV p.2 q.2
noncomputable def kV:Key→V
 | .inl i=> .int i
 | .inr x=> .str x
inductive HO where

 |lst (xs:List V)

 |tup (xs:List V)

 |dK (kvs:List (Key×V))|dT (kvs:List (List Key×V))

 |set (S:Int→Bool) (n:Nat)

 |ins (C dx:Addr) (fs:List (Str×V))

 |own (x:Addr)

 |xd (fs:List (Str×V))

 |met (f x:Addr)

 |rng (lo hi:Int)

 |frz (o:Obj) (u:HO)

 |tbl (ps:Array Value)

 |ext (φ:Heap→Prop)
noncomputable abbrev Hp:=Addr→Option HO
noncomputable def upd (H:Hp) (a:Addr) (o:HO):Hp:=fun b=>if b=a then some o else H b
theorem af {H:Hp} {a:Addr} {o:HO}:upd H a o a=some o:=by unfold upd;rw [if_pos rfl]
theorem aa {H:Hp} {a b:Addr} {o:HO} (h:b≠a):upd H a o b=H b:=by unfold upd;rw [if_neg h]
theorem av {H:Hp} {a b:Addr} {o:HO} (h:H a=some o) (h':H b=none):a≠b:=by
 intro e;subst e;rw [h] at h';cases h'
section
variable (P:Program) (w:World)
def aL (H:Hp) (h:Heap) (a:Addr):HO→Prop
 | .lst xs=>xs.length≤sizeLine∧∃(its:List Value) (n:Nat),Vals xs its∧h.get? a=some {cls:= .type "list",data:= .seq its.toArray n}
 | .tup xs=>xs.length≤sizeLine∧∃its:List Value,Vals xs its∧IsTup h a its.toArray
 | .dK kvs=>kvs.length≤sizeLine∧(a == sysModules)=false∧∃vs,KV kvs vs∧h.DictOf (gC P w) a vs
 |
   .dT kvs=>kvs.length≤sizeLine∧(a == sysModules)=false∧∃xs:List (List Key×Addr×Value),
   Paired (fun (p:List Key×V) (q:List Key×Addr×Value)=>p.1=q.1∧H q.2.1=some (.tup (p.1.map kV))∧RelV p.2 q.2.2) kvs xs∧
   ∃o es ep,h.get? a=some o∧o.ExactDict∧o.data = .dict es ep∧es.toList=xs.map (entryOfKey (tupleKind (gC P w)))∧(xs.map (·.1)).Nodup
 | .set S n=>h.SetOf (intKind P w) a S n
 |
   .ins C dx fs=>H dx=some (.own a)∧fs.length≤1000∧dx≠a∧h.get? a=some (PySem.W.instObj C dx)∧
   ∃mA,h.Ns1 dx mA∧(∀f,mW (fs.lookup f) (mA f))∧PySem.Within mA (fs.map (·.1))
 | .own _=> ∃o,h.get? a=some o
 | .xd fs=> ∃mA,h.Ns1 a mA∧∀f,mW (fs.lookup f) (mA f)
 | .rng lo hi=> ∃t u v,h.get? a=some {cls:= .type "range",data:= .fields #[.int lo t,.int hi u,.int 1 v]}
 | .frz o u=>h.get? a=some o∧aL H h a u
 | .tbl ps=>h.get? a=some {cls:= .none,data:= .fields ps}
 | .met f x=>h.get? a=some (PySem.W.methodObj (.ref f) (.ref x))
 | .ext φ=>φ h∧(∃o,h.get? a=some o)∧∀h1 h2:Heap,φ h1→(∀o,h1.get? a=some o→h2.get? a=some o)→φ h2
def c6 (H:Hp) (h:Heap):Prop:= ∀a o,H a=some o→aL P w H h a o
end
section
variable {P:Program} {w:World} {H H':Hp} {h h':Heap} {a:Addr} {o:HO}
theorem aL.lt (x:aL P w H h a o):a<h.objs.size:=by
 cases o with
 |lst xs=>obtain ⟨_,_,_,_,e⟩:=x;exact Heap.lt_size e
 |tup xs=>obtain ⟨_,_,_,p⟩:=x;exact p.lt
 |dK kvs=>obtain ⟨_,_,_,_,o,_,_,e,_⟩:=x;exact Heap.lt_size e
 |dT kvs=>obtain ⟨_,_,_,_,o,_,_,e,_⟩:=x;exact Heap.lt_size e
 |set S n=>obtain ⟨o,_,_,_,e,_⟩:=x;exact Heap.lt_size e
 |ins C dx fs=>obtain ⟨_,_,_,e,_⟩:=x;exact Heap.lt_size e
 |own y=>obtain ⟨_,e⟩:=x;exact Heap.lt_size e
 |xd fs=>obtain ⟨_,⟨_,_,_,e,_⟩,_⟩:=x;exact Heap.lt_size e
 |rng lo hi=>obtain ⟨_,_,_,e⟩:=x;exact Heap.lt_size e
 |frz ob u=>obtain ⟨e,_⟩:=x;exact Heap.lt_size e
 |tbl ps=>exact Heap.lt_size (show h.get? a=some _ from x)
 |met f y=>exact Heap.lt_size (show h.get? a=some _ from x)
 |ext φ=>obtain ⟨_,⟨_,e⟩,_⟩:=x;exact Heap.lt_size e
theorem Paired.nU {α β:Type} {F G:α→β→Prop}: ∀{l₁:List α} {l₂:List β},Paired F l₁ l₂→(∀a b,F a b→G a b)→Paired G l₁ l₂
 |_,_,.nil,_=> .nil
 |_,_,.cons r t,f=> .cons (f _ _ r) (Paired.nU t f)
theorem aL.stay (x:aL P w H h a o) (k: ∀b u,(b=a∨H b=some (.own a))→h.get? b=some u→h'.get? b=some u)
  (ho: ∀b,H b=some (.own a)→H' b=some (.own a)) (ht: ∀b xs,H b=some (.tup xs)→H' b=some (.tup xs)):aL P w H' h' a o:=by
 induction o with
 |lst xs=>obtain ⟨z,its,n,r,e⟩:=x;exact ⟨z,its,n,r,k _ _ (.inl rfl) e⟩
 |tup xs=>obtain ⟨z,its,r,ob,e,c⟩:=x;exact ⟨z,its,r,ob,k _ _ (.inl rfl) e,c⟩
 |dK kvs=>obtain ⟨z,y,vs,r,ob,es,ep,e,c⟩:=x;exact ⟨z,y,vs,r,ob,es,ep,k _ _ (.inl rfl) e,c⟩
 |dT kvs=>
  obtain ⟨z,y,xs,r,ob,es,ep,e,c⟩:=x
  exact ⟨z,y,xs,Paired.nU r fun p q z=>⟨z.1,ht _ _ z.2.1,z.2.2⟩,ob,es,ep,k _ _ (.inl rfl) e,c⟩
 |set S n=>obtain ⟨ob,es,ep,t,e,c⟩:=x;exact ⟨ob,es,ep,t,k _ _ (.inl rfl) e,c⟩
 |ins C dx fs=>
  obtain ⟨d,z,ne,e,mA,⟨od,es,ep,e2,c⟩,r⟩:=x
  exact ⟨ho _ d,z,ne,k _ _ (.inl rfl) e,mA,⟨od,es,ep,k _ _ (.inr d) e2,c⟩,r⟩
 |own y=>obtain ⟨ob,e⟩:=x;exact ⟨ob,k _ _ (.inl rfl) e⟩
 |xd fs=>obtain ⟨mA,⟨od,es,ep,e,c⟩,r⟩:=x;exact ⟨mA,⟨od,es,ep,k _ _ (.inl rfl) e,c⟩,r⟩
 |rng lo hi=>obtain ⟨t,u,v,e⟩:=x;exact ⟨t,u,v,k _ _ (.inl rfl) e⟩
 |frz ob u ih=>obtain ⟨e,q⟩:=x;exact ⟨k _ _ (.inl rfl) e,ih q⟩
 |tbl ps=>
  have e:h.get? a=some {cls:= .none,data:= .fields ps}:=x
  show h'.get? a=some {cls:= .none,data:= .fields ps}
  exact k a _ (.inl rfl) e
 |met f y=>
  have e:h.get? a=some (PySem.W.methodObj (.ref f) (.ref y)):=x
  show h'.get? a=some (PySem.W.methodObj (.ref f) (.ref y))
  exact k a _ (.inl rfl) e
 |ext φ=>obtain ⟨p,⟨o,e⟩,st⟩:=x;exact ⟨st _ _ p fun o q=>k _ _ (.inl rfl) q,⟨o,k _ _ (.inl rfl) e⟩,st⟩
theorem c6.lt (x:c6 P w H h) (e:H a=some o):a<h.objs.size:=(x a o e).lt
theorem c6.fresh (x:c6 P w H h) (e:h.objs.size≤a):H a=none:=by
 cases q:H a with
 |none=>rfl
 |some u=>exact absurd (Nat.lt_of_lt_of_le (x.lt q) e) (Nat.lt_irrefl _)
theorem c6.kept (x:c6 P w H h) (k: ∀b u,h.get? b=some u→h'.get? b=some u):c6 P w H h':=fun a o e=>
 (x a o e).stay (fun b u _ q=>k b u q) (fun _ q=>q) fun _ _ q=>q
theorem c6.laid (x:c6 P w H h) (k: ∀b u,h.get? b=some u→h'.get? b=some u) (hp:h.objs.size≤a) (new:aL P w (upd H a o) h' a o):c6 P w (upd H a o) h':=fun b u e=>by
 have hn:=x.fresh hp
 by_cases hb:b=a
 ·subst hb;rw [af] at e;cases e;exact new
 ·
  rw [aa hb] at e
  exact (x b u e).stay (fun c v _ q=>k c v q) (fun c q=>by rw [aa (av q hn)];exact q) fun c xs q=>by rw [aa (av q hn)];exact q
end
def Rd (H:Hp) (a:Addr) (u:HO):Prop:=H a=some u∨∃o,H a=some (.frz o u)
theorem Rd.ok {P:Program} {w:World} {H:Hp} {h:Heap} {a:Addr} {u:HO} (r:Rd H a u) (x:c6 P w H h):aL P w H h a u:=by
 rcases r with r|⟨o,r⟩
 ·exact x a u r
 ·
  obtain ⟨_,q⟩:=x a _ r
  exact q
def oz:Option HO→Prop
 |some (.lst _)=>True
 |some (.dK _)=>True
 |some (.dT _)=>True
 |some (.set _ _)=>True
 |some (.ins _ _ _)=>True
 |some (.ext _)=>True
 |_=>False
section
variable {P:Program} {w:World} {H:Hp} {h h':Heap} {x e:Addr} {o':HO}
theorem c6.write (ok:c6 P w H h) (mu:oz (H x)) (he:e=x∨H e=some (.own x)) (k: ∀b u,b≠e→h.get? b=some u→h'.get? b=some u) (heo: ∃u,h'.get? e=some u)
  (new:aL P w (upd H x o') h' x o'):c6 P w (upd H x o') h':=fun b u q=>by
 have nown: ∀c y,H c=some (.own y)→c≠x:=fun c y r z=>by subst z;rw [r] at mu;exact mu
 have ntup: ∀c xs,H c=some (.tup xs)→c≠x:=fun c xs r z=>by subst z;rw [r] at mu;exact mu
 by_cases hb:b=x
 ·subst hb;rw [af] at q;cases q;exact new
 ·
  rw [aa hb] at q
  by_cases hbe:b=e
  ·have q':H b=some (.own x):=by
    rcases he with z|z
    ·exact absurd (hbe.trans z) hb
    ·rw [hbe];exact z
   rw [q] at q';cases q'
   obtain ⟨v,hv⟩:=heo
   exact ⟨v,by rw [hbe];exact hv⟩
  ·
   refine (ok b u q).stay (fun c v hc r=>k c v ?_ r) (fun c r=>by rw [aa (nown c b r)];exact r) fun c xs r=>by rw [aa (ntup c xs r)];exact r
   rcases hc with rfl|hc
   ·exact hbe
   ·
    rintro rfl
    rcases he with z|z
    ·exact nown c b hc z
    ·rw [hc] at z;cases z;exact hb rfl
end
structure Un (fs ex:List Addr) (H H':Hp) (h h':Heap):Prop where
 keep: ∀b o,h.get? b=some o→H b=none→b ∉ fs→b ∉ ex→h'.get? b=some o
 slot: ∀b o,h.get? b=some o→H b=none→b∈fs→b ∉ ex→∃sl,h'.get? b=some {o with slots:=sl}
 free: ∀b o,h.get? b=some o→H b=none→b ∉ ex→H' b=none
 there: ∀b o,h.get? b=some o→b ∉ ex→∃o',h'.get? b=some o'
 tups: ∀b xs,H b=some (.tup xs)→H' b=some (.tup xs)
 frzs: ∀b o u,H b=some (.frz o u)→H' b=some (.frz o u)
 tbls: ∀b ps,H b=some (.tbl ps)→∃more,H' b=some (.tbl (ps++more))
section
variable {fs fs' ex ex':List Addr} {H H1 H2:Hp} {h h1 h2 h':Heap} {a x e:Addr} {o:HO}
theorem Un.any (u:Un fs ex H H1 h h1) {b:Addr} {ob:Obj} (q:h.get? b=some ob) (n:H b=none) (hx:b ∉ ex): ∃sl,h1.get? b=some {ob with slots:=sl}:=by
 by_cases hb:b∈fs
 ·exact u.slot b ob q n hb hx
 ·exact ⟨ob.slots,u.keep b ob q n hb hx⟩
theorem Un.kept (k: ∀b u,h.get? b=some u→h'.get? b=some u):Un fs ex H H h h':=
 ⟨fun b ob q _ _ _=>k b ob q,fun b ob q _ _ _=>⟨ob.slots,k b ob q⟩,fun _ _ _ n _=>n,fun b ob q _=>⟨ob,k b ob q⟩,fun _ _ q=>q,fun _ _ _ q=>q,fun _ ps q=>⟨#[],by rw [q];simp⟩⟩
theorem Un.refl:Un fs ex H H h h:=Un.kept fun _ _ q=>q
theorem Un.laid (k: ∀b u,h.get? b=some u→h'.get? b=some u) (hp:h.objs.size≤a) (hn:H a=none):Un fs ex H (upd H a o) h h' where
 keep:=fun b u q _ _ _=>k b u q
 slot:=fun b u q _ _ _=>⟨u.slots,k b u q⟩
 free:=fun b u q n _=>by rw [aa (Nat.ne_of_lt (Nat.lt_of_lt_of_le (Heap.lt_size q) hp))];exact n
 there:=fun b u q _=>⟨u,k b u q⟩
 tups:=fun b xs q=>by rw [aa (av q hn)];exact q
 frzs:=fun b u xs q=>by rw [aa (av q hn)];exact q
 tbls:=fun b ps q=>⟨#[],by rw [aa (av q hn),q];simp⟩
theorem Un.write (mu:oz (H x)) (he:e=x∨H e=some (.own x)) (k: ∀b u,b≠e→h.get? b=some u→h'.get? b=some u) (heo: ∃u,h'.get? e=some u):Un fs ex H (upd H x o) h h':=by
 have hx: ∀b,H b=none→b≠x:=fun b n z=>by subst z;rw [n] at mu;exact mu
 have hb: ∀b,H b=none→b≠e:=fun b n z=>by
  subst z
  rcases he with r|r
  ·exact hx b n r
  ·rw [n] at r;cases r
 have hm: ∀b u,H b=some u→¬oz (some u)→b≠x:=fun b u q nm z=>by subst z;rw [q] at mu;exact nm mu
 refine ⟨fun b u q n _ _=>k b u (hb b n) q,fun b u q n _ _=>⟨u.slots,k b u (hb b n) q⟩,fun b u q n _=>by rw [aa (hx b n)];exact n,fun b u q _=>?_,
  fun b xs q=>by rw [aa (hm b _ q fun z=>z)];exact q,fun b u xs q=>by rw [aa (hm b _ q fun z=>z)];exact q,fun b ps q=>⟨#[],by rw [aa (hm b _ q fun z=>z),q];simp⟩⟩
 by_cases hbe:b=e
 ·subst hbe;exact heo
 ·exact ⟨u,k b u hbe q⟩
end
noncomputable def trk (h:Heap) (H:Hp):List Addr:=(List.range h.objs.size).filter fun a=>(H a).isSome
noncomputable def eH (h:Heap) (H:Hp):Heap:=PySem.W.hideAll h (trk h H)
theorem iA (h:Heap) (H:Hp):(eH h H).objs.size=h.objs.size:=PySem.W.hideAll_size _ _
theorem dz {h:Heap} {H:Hp} {b:Addr} {o:Obj} (e:h.get? b=some o) (n:H b=none):(eH h H).get? b=some o:=
 PySem.W.hideAll_get _ e fun hm=>by
  have q:(H b).isSome=true:=(List.mem_filter.mp hm).2
  rw [n] at q;simp at q
theorem kv {h:Heap} {H:Hp} {b:Addr} {o:Obj} (e:(eH h H).get? b=some o):h.get? b=some o∧H b=none:=by
 have e':h.get? b=some o:=PySem.W.of_hideAll (trk h H) e
 refine ⟨e',?_⟩
 cases q:H b with
 |none=>rfl
 |some x=>
  have hm:b∈trk h H:=List.mem_filter.mpr ⟨List.mem_range.mpr (Heap.lt_size e'),by simp [q]⟩
  have z:(eH h H).get? b=none:=PySem.W.hideAll_none (trk h H) hm
  rw [z] at e;cases e
structure Mod (K:PySem.W.Frag) (mg:Str→Option Value) (base:Heap):Prop where
 kin:K.In base
 glob:base.Ns mainGlobals mg
 blt: ∃mb,base.Ns builtinsNs mb∧∀x:Str,x≠ "__name__" →mb x=bootBuiltins x
 nolimit:base.NoLimit
structure Cx where
 prog:Program
 w:World
 K:PySem.W.Frag
 mg:Str→Option Value
 base:Heap
 A:Around
 N:List Str
 s₀:Shared
 H₀:Hp
 env:Env
 outer:List Env
 stack:List Env
 ex:List Addr
 fn:Str→Bool
 calm:Bool
 pn:List (Addr×Obj)
 xe:Value→Shared→Prop
noncomputable def frs (l:List Env):List Addr:=l.filterMap (·.frame)
noncomputable abbrev Cx.fs (X:Cx):List Addr:=frs X.outer
def m3 (sc:Scope) (x:Str):Prop:=sc.names.lookup x=some .local∨sc.names.lookup x=some .cell∨sc.names.lookup x=some .free
def Loc (sc:Scope) (x:Str):Prop:=sc.names.lookup x=some .local∨sc.names.lookup x=some .cell
def Look (env:Env) (h:Heap) (m:Str→Option Value) (x:Str) (u:Value):Prop:=
 (env.kindOf x=some .local∧m x=some u)∨((env.kindOf x=some .cell∨env.kindOf x=some .free)∧∃c,env.cells.lookup x=some c∧h.IsCell c (some u))
structure Cx.Ok (X:Cx):Prop where
 mod:Mod X.K X.mg X.base
 kind:X.env.scope.kind = .function
 glob:X.env.globals=mainGlobals
 blt:X.env.builtins=builtinsNs
 above:X.s₀.heap.objs.size≤X.env.locals
 inj: ∀x y c,X.env.cells.lookup x=some c→X.env.cells.lookup y=some c→x=y
 has: ∀x,(X.env.kindOf x=some .cell∨X.env.kindOf x=some .free)→∃c,X.env.cells.lookup x=some c
 cab: ∀x c,X.fn x=true→X.env.cells.lookup x=some c→X.s₀.heap.objs.size≤c
 hd:X.calm=true→X.A.handled=none
 frames:X.A.frames=some X.stack
 stk:X.stack=X.outer∨(X.stack=X.env::X.outer∧X.env.frame=some X.env.locals)
 exf: ∀b∈X.ex,b≠X.env.locals∧∀x c,X.env.cells.lookup x=some c→c≠b
 bs: ∀b o,X.base.get? b=some o→X.s₀.heap.get? b=some o∧X.H₀ b=none
 bsz:X.base.objs.size≤X.s₀.heap.objs.size
 noex: ∀b o,X.base.get? b=some o→b ∉ X.ex
 exfs: ∀b∈X.ex,b ∉ X.fs
 funs:X.s₀.heap.FunFrames X.base X.outer
 frf: ∀b∈X.fs,X.H₀ b=none
structure Inv (X:Cx) (pins:List (Addr×Obj)) (σ:List (Option V)) (H:Hp) (s:Shared):Prop where
 ok:X.Ok
 os:s.os=X.s₀.os
 bare:AllBare s.gens
 base:Un X.fs X.ex X.H₀ H X.s₀.heap s.heap
 loc: ∃m,s.heap.Ns X.env.locals m∧∀(i:Nat) (x:Str) (v:V),X.N[i]?=some x→σ[i]?=some (some v)→m3 X.env.scope x→∃u,RelV v u∧Look X.env s.heap m x u
 cell: ∀x c,X.env.cells.lookup x=some c→∃v,s.heap.IsCell c v
 free:H X.env.locals=none
 cb: ∀x c,X.env.cells.lookup x=some c→H c=none
 pin: ∀p∈X.pn++pins,s.heap.get? p.1=some p.2∧H p.1=none∧p.1≠X.env.locals∧p.1 ∉ X.fs∧∀v,p.2.data≠ .cell v
 hok:c6 X.prog X.w H s.heap
 len:σ.length=X.N.length
section
variable {X:Cx} {pins:List (Addr×Obj)} {σ:List (Option V)} {H H':Hp} {s:Shared} {h':Heap}
theorem Cx.Ok.nofr (ok:X.Ok) {b:Addr} {o:Obj} (e:X.base.get? b=some o):b ∉ X.fs:=fun hb=>by
 have:=(ok.funs.mem hb).1
 rw [e] at this;cases this
theorem Inv.bs (I:Inv X pins σ H s): ∀b o,X.base.get? b=some o→s.heap.get? b=some o∧H b=none:=fun b o e=>
 ⟨I.base.keep b o (I.ok.bs b o e).1 (I.ok.bs b o e).2 (I.ok.nofr e) (I.ok.noex b o e),I.base.free b o (I.ok.bs b o e).1 (I.ok.bs b o e).2 (I.ok.noex b o e)⟩
theorem Inv.bk (I:Inv X pins σ H s): ∀b o,X.base.get? b=some o→s.heap.get? b=some o:=fun b o e=>(I.bs b o e).1
theorem Inv.mod (I:Inv X pins σ H s):Mod X.K X.mg X.base:=I.ok.mod
theorem Inv.eS (I:Inv X pins σ H s):X.K.In s.heap:=I.ok.mod.kin.keeps I.bk
theorem Inv.lt (I:Inv X pins σ H s):X.env.locals<s.heap.objs.size:=let ⟨_,hn,_⟩:=I.loc;hn.lt
theorem Inv.sz (I:Inv X pins σ H s):X.s₀.heap.objs.size≤s.heap.objs.size:=Nat.le_trans I.ok.above (Nat.le_of_lt I.lt)
theorem Inv.nofs (I:Inv X pins σ H s) {a:Addr} (h:s.heap.objs.size≤a):a ∉ X.fs:=fun hb=>by
 obtain ⟨_,o,ho,_⟩:=I.ok.funs.mem hb
 exact absurd (Nat.lt_of_lt_of_le (Heap.lt_size ho) (Nat.le_trans I.sz h)) (Nat.lt_irrefl _)
theorem Inv.cne (I:Inv X pins σ H s): ∀x c,X.env.cells.lookup x=some c→c≠X.env.locals:=fun x c e z=>by
 obtain ⟨v,o,ho,hd⟩:=I.cell x c e
 obtain ⟨m,⟨o',es,ep,ho',hd',_⟩,_⟩:=I.loc
 rw [z,ho'] at ho;cases ho;rw [hd'] at hd;cases hd
theorem Inv.funs (I:Inv X pins σ H s):s.heap.FunFrames X.base X.outer:=by
 have all: ∀(l:List Env),(∀b∈frs l,b∈X.fs)→X.s₀.heap.FunFrames X.base l→s.heap.FunFrames X.base l:=by
  intro l
  induction l with
  |nil=>intro _ _;trivial
  |cons env r ih=>
   intro hs hl
   obtain ⟨hk,⟨L,o,hf,hn,ho,hd⟩,hr⟩:=hl
   have hL:L∈X.fs:=hs L (by unfold frs;rw [List.filterMap_cons,hf];exact List.mem_cons_self)
   obtain ⟨sl,e⟩:=I.base.slot L o ho (I.ok.frf L hL) hL fun z=>I.ok.exfs L z hL
   exact ⟨hk,⟨L,_,hf,hn,e,hd⟩,ih (fun b hb=>hs b (by unfold frs;rw [List.filterMap_cons,hf];exact List.mem_cons_of_mem _ hb)) hr⟩
 exact all X.outer (fun _ hb=>hb) I.ok.funs
theorem Inv.stack (I:Inv X pins σ H s):s.heap.FunFrames X.base X.stack:=by
 rcases I.ok.stk with e|⟨e,hf⟩
 ·rw [e];exact I.funs
 ·
  rw [e]
  obtain ⟨m,hn,_⟩:=I.loc
  refine .cons (by rw [I.ok.kind];decide) hf hn ?_ I.funs
  exact Heap.get?_none_of_le (Nat.le_trans I.ok.bsz I.ok.above)
theorem Inv.da (I:Inv X pins σ H s): ∀b∈frs X.stack,b∈X.env.locals::X.fs:=fun b hb=>by
 rcases I.ok.stk with e|⟨e,hf⟩
 ·rw [e] at hb;exact List.mem_cons_of_mem _ hb
 ·
  rw [e] at hb
  unfold frs at hb
  rw [List.filterMap_cons,hf] at hb
  exact hb
theorem Inv.gp (I:Inv X pins σ H s): ∀b∈frs X.stack,H b=none:=fun b hb=>by
 rcases List.mem_cons.mp (I.da b hb) with e|hb
 ·rw [e];exact I.free
 ·
  obtain ⟨_,o,ho,_⟩:=I.ok.funs.mem hb
  exact I.base.free b o ho (I.ok.frf b hb) fun z=>I.ok.exfs b z hb
theorem Inv.step {g':Array GenState} {t':Nat} {d':Drawn} {ch:List Addr} (I:Inv X pins σ H s)
  (hch: ∀b∈ch,(b∈X.ex∨X.s₀.heap.objs.size≤b)∧b≠X.env.locals∧(∀x c,X.env.cells.lookup x=some c→c≠b)∧∀p∈X.pn++pins,p.1≠b)
  (keep: ∀b o,b≠X.env.locals→b ∉ X.fs→b ∉ ch→s.heap.get? b=some o→H b=none→h'.get? b=some o)
  (slot: ∀b o,b≠X.env.locals→b∈X.fs→b ∉ ch→s.heap.get? b=some o→H b=none→∃sl,h'.get? b=some {o with slots:=sl}) (free: ∀b o,b ∉ ch→s.heap.get? b=some o→H b=none→H' b=none)
  (there: ∀b o,b ∉ ch→s.heap.get? b=some o→∃o',h'.get? b=some o')
  (tups: ∀b xs,H b=some (.tup xs)→H' b=some (.tup xs)) (frzs: ∀b o u,H b=some (.frz o u)→H' b=some (.frz o u)) (tbls: ∀b ps,H b=some (.tbl ps)→∃more,H' b=some (.tbl (ps++more)))
  (ns: ∀m,s.heap.Ns X.env.locals m→h'.Ns X.env.locals m) (hok:c6 X.prog X.w H' h') (hg:AllBare g'):
  Inv X pins σ H' {s with heap:=h',gens:=g',drawn:=d',toks:=t'}:=by
 have neL: ∀b o,X.s₀.heap.get? b=some o→b≠X.env.locals:=fun b o e=>Nat.ne_of_lt (Nat.lt_of_lt_of_le (Heap.lt_size e) I.ok.above)
 have neC: ∀b o,X.s₀.heap.get? b=some o→b ∉ X.ex→b ∉ ch:=fun b o e hx hb=>by
  rcases (hch b hb).1 with z|z
  ·exact hx z
  ·exact absurd (Nat.lt_of_lt_of_le (Heap.lt_size e) z) (Nat.lt_irrefl _)
 have cellK: ∀x c,X.env.cells.lookup x=some c→∀v,s.heap.IsCell c v→h'.IsCell c v:=fun x c e v ⟨o,ho,hd⟩=>by
  have nch:c ∉ ch:=fun z=>(hch c z).2.2.1 x c e rfl
  by_cases hc:c∈X.fs
  ·
   obtain ⟨sl,q⟩:=slot c o (I.cne x c e) hc nch ho (I.cb x c e)
   exact ⟨_,q,hd⟩
  ·exact ⟨o,keep c o (I.cne x c e) hc nch ho (I.cb x c e),hd⟩
 refine ⟨I.ok,I.os,hg,⟨fun b o e n hb hx=>?_,fun b o e n hb hx=>?_,fun b o e n hx=>?_,fun b o e hx=>?_,fun b xs e=>tups b xs (I.base.tups b xs e),fun b o xs e=>frzs b o xs (I.base.frzs b o xs e),fun b ps e=>?_⟩,?_,fun x c e=>?_,?_,fun x c e=>?_,fun p hp=>?_,hok,I.len⟩
 ·exact keep b o (neL b o e) hb (neC b o e hx) (I.base.keep b o e n hb hx) (I.base.free b o e n hx)
 ·
  obtain ⟨sl,e1⟩:=I.base.slot b o e n hb hx
  obtain ⟨sl',e2⟩:=slot b _ (neL b o e) hb (neC b o e hx) e1 (I.base.free b o e n hx)
  exact ⟨sl',e2⟩
 ·
  obtain ⟨o',e1⟩:=I.base.there b o e hx
  exact free b o' (neC b o e hx) e1 (I.base.free b o e n hx)
 ·
  obtain ⟨o',e1⟩:=I.base.there b o e hx
  exact there b o' (neC b o e hx) e1
 ·
  obtain ⟨m1,e1⟩:=I.base.tbls b ps e
  obtain ⟨m2,e2⟩:=tbls b _ e1
  exact ⟨m1++m2,by rw [e2,Array.append_assoc]⟩
 ·
  obtain ⟨m,hn,hl⟩:=I.loc
  refine ⟨m,ns m hn,fun i x v e1 e2 e3=>?_⟩
  obtain ⟨u,r,l⟩:=hl i x v e1 e2 e3
  refine ⟨u,r,?_⟩
  rcases l with l|⟨k,c,e,z⟩
  ·exact .inl l
  ·exact .inr ⟨k,c,e,cellK x c e _ z⟩
 ·
  obtain ⟨v,z⟩:=I.cell x c e
  exact ⟨v,cellK x c e v z⟩
 ·
  obtain ⟨m,⟨o,_,_,ho,_⟩,_⟩:=I.loc
  exact free _ o (fun z=>(hch _ z).2.1 rfl) ho I.free
 ·
  obtain ⟨v,o,ho,hd⟩:=I.cell x c e
  exact free c o (fun z=>(hch c z).2.2.1 x c e rfl) ho (I.cb x c e)
 ·
  obtain ⟨e,n,ne,nf,d⟩:=I.pin p hp
  have nch:p.1 ∉ ch:=fun z=>(hch p.1 z).2.2.2 p hp rfl
  exact ⟨keep p.1 p.2 ne nf nch e n,free p.1 p.2 nch e n,ne,nf,d⟩
theorem Inv.un {t':Nat} (I:Inv X pins σ H s) (u:Un X.fs [] H H' s.heap h') (hok:c6 X.prog X.w H' h'):Inv X pins σ H' {s with heap:=h',toks:=t'}:=by
 obtain ⟨m,⟨o,es,ep,ho,r⟩,_⟩:=id I.loc
 obtain ⟨sl,hL⟩:=u.any ho I.free (by simp)
 exact I.step (g':=s.gens) (d':=s.drawn) (ch:=[]) (fun _ z=>nomatch z) (fun b o _ hb _ e n=>u.keep b o e n hb (by simp)) (fun b o _ hb _ e n=>u.slot b o e n hb (by simp)) (fun b o _ e n=>u.free b o e n (by simp)) (fun b o _ e=>u.there b o e (by simp)) u.tups u.frzs u.tbls (fun m' hm=>by
  obtain ⟨o',es',ep',ho',r'⟩:=hm
  rw [ho] at ho';cases ho'
  exact ⟨_,es',ep',hL,r'⟩) hok I.bare
theorem Inv.call {g':Array GenState} {t':Nat} {d':Drawn} {ch:List Addr} (I:Inv X pins σ H s) (u:Un (frs X.stack) ch H H' s.heap h') (hok:c6 X.prog X.w H' h') (hg:AllBare g')
  (hch: ∀b∈ch,(b∈X.ex∨X.s₀.heap.objs.size≤b)∧b≠X.env.locals∧(∀x c,X.env.cells.lookup x=some c→c≠b)∧∀p∈X.pn++pins,p.1≠b):
  Inv X pins σ H' {s with heap:=h',gens:=g',drawn:=d',toks:=t'}:=by
 obtain ⟨m,⟨o,es,ep,ho,r⟩,_⟩:=id I.loc
 obtain ⟨sl,hL⟩:=u.any ho I.free fun z=>(hch _ z).2.1 rfl
 exact I.step (ch:=ch) hch (fun b o hL hb hc e n=>u.keep b o e n (fun z=>(List.mem_cons.mp (I.da b z)).elim hL hb) hc) (fun b o _ _ hc e n=>u.any e n hc) (fun b o hc e n=>u.free b o e n hc) (fun b o hc e=>u.there b o e hc) u.tups u.frzs u.tbls (fun m' hm=>by
  obtain ⟨o',es',ep',ho',r'⟩:=hm
  rw [ho] at ho';cases ho'
  exact ⟨_,es',ep',hL,r'⟩) hok hg
theorem Inv.turned {t':Nat} {it:Addr} (I:Inv X pins σ H s) (k: ∀b o,b≠it→s.heap.get? b=some o→h'.get? b=some o) (hn:H it=none) (hL:it≠X.env.locals)
  (h1:it∈X.ex∨X.s₀.heap.objs.size≤it) (h2: ∀x c,X.env.cells.lookup x=some c→c≠it) (h3: ∀p∈X.pn++pins,p.1≠it):Inv X pins σ H {s with heap:=h',toks:=t'}:=by
 have nit: ∀b u,H b=some u→b≠it:=fun b u e z=>by rw [z,hn] at e;cases e
 refine I.step (g':=s.gens) (d':=s.drawn) (ch:=[it]) (fun b hb=>?_) (fun b o _ _ hc e _=>k b o (fun z=>hc (by simp [z])) e) (fun b o _ _ hc e _=>⟨o.slots,k b o (fun z=>hc (by simp [z])) e⟩) (fun _ _ _ _ n=>n)
  (fun b o hc e=>⟨o,k b o (fun z=>hc (by simp [z])) e⟩) (fun _ _ e=>e) (fun _ _ _ e=>e) (fun b ps e=>⟨#[],by rw [e];simp⟩) (fun m hm=>?_) (fun b u e=>?_) I.bare
 ·
  have e:b=it:=by simpa using hb
  subst e
  exact ⟨h1,hL,h2,h3⟩
 ·
  obtain ⟨o,es,ep,ho,r⟩:=hm
  exact ⟨o,es,ep,k _ o (Ne.symm hL) ho,r⟩
 ·
  refine (I.hok b u e).stay (fun c v hc q=>k c v ?_ q) (fun _ q=>q) fun _ _ q=>q
  rcases hc with z|z
  ·rw [z];exact nit b u e
  ·exact nit c _ z
theorem Inv.tok (I:Inv X pins σ H s) (t:Nat):Inv X pins σ H {s with toks:=t}:=I.un (h':=s.heap) (t':=t) Un.refl I.hok
theorem Inv.kept {t':Nat} (I:Inv X pins σ H s) (k: ∀b u,s.heap.get? b=some u→h'.get? b=some u):Inv X pins σ H {s with heap:=h',toks:=t'}:=I.un (Un.kept k) (I.hok.kept k)
theorem Inv.laid {a:Addr} {o:HO} {t':Nat} (I:Inv X pins σ H s) (k: ∀b u,s.heap.get? b=some u→h'.get? b=some u) (hp:s.heap.objs.size≤a) (new:aL X.prog X.w (upd H a o) h' a o):
  Inv X pins σ (upd H a o) {s with heap:=h',toks:=t'}:=I.un (Un.laid k hp (I.hok.fresh hp)) (I.hok.laid k hp new)
theorem Inv.write {x e:Addr} {o:HO} {t':Nat} (I:Inv X pins σ H s) (mu:oz (H x)) (he:e=x∨H e=some (.own x)) (k: ∀b u,b≠e→s.heap.get? b=some u→h'.get? b=some u) (heo: ∃u,h'.get? e=some u)
  (new:aL X.prog X.w (upd H x o) h' x o):Inv X pins σ (upd H x o) {s with heap:=h',toks:=t'}:=I.un (Un.write mu he k heo) (I.hok.write mu he k heo new)
theorem Inv.c7 {pins':List (Addr×Obj)} (I:Inv X pins σ H s) (h: ∀p∈pins',s.heap.get? p.1=some p.2∧H p.1=none∧p.1≠X.env.locals∧p.1 ∉ X.fs∧∀v,p.2.data≠ .cell v):Inv X pins' σ H s:=
 ⟨I.ok,I.os,I.bare,I.base,I.loc,I.cell,I.free,I.cb,fun p hp=>(List.mem_append.mp hp).elim (fun z=>I.pin p (List.mem_append_left _ z)) (h p),I.hok,I.len⟩
theorem ff {N:List Str} (hN:N.Nodup) {i j:Nat} {x:Str} (a:N[i]?=some x) (b:N[j]?=some x):i=j:=by
 obtain ⟨h1,e1⟩:=List.getElem?_eq_some_iff.mp a
 obtain ⟨h2,e2⟩:=List.getElem?_eq_some_iff.mp b
 exact (List.getElem_inj hN).mp (e1.trans e2.symm)
theorem dS {M:Model} {A:Around} {E:Value→Shared→Prop} {i:Nat} {x:Str} {v:V} {u:Value} {Q:Unit→Shared→Prop} (I:Inv X pins σ H s) (hN:X.N.Nodup) (hi:X.N[i]?=some x) (hx:Loc X.env.scope x) (r:RelV v u)
  (h: ∀s',Inv X pins (σ.set i (some v)) H s'→(∃a,Heap.SameBut a s.heap s'.heap∧(a=X.env.locals∨X.env.cells.lookup x=some a))→Q () s') (hf:X.fn x=true∨X.env.scope.names.lookup x=some .local:=by first|exact .inl rfl|exact .inr rfl|assumption):wpAny M A (storeName X.env x u) Q E s:=by
 obtain ⟨m,hn,hl⟩:=id I.loc
 have hcls:(X.env.scope.kind == .class||(X.env.scope.kind == .module&&X.env.locals != X.env.globals))=false:=by rw [I.ok.kind];rfl
 have hiσ:i<σ.length:=by rw [I.len];exact (List.getElem?_eq_some_iff.mp hi).1
 have cne:=I.cne
 have tracked: ∀{a:Addr} {h':Heap},(∃o,s.heap.get? a=some o∧H a=none)→Heap.SameBut a s.heap h'→c6 X.prog X.w H h':=fun {a h'} ha hs b ob e=>by
  obtain ⟨_,_,hfree⟩:=ha
  refine (I.hok b ob e).stay (fun c w' hc q=>(hs.2 c ?_).trans q) (fun _ q=>q) fun _ _ q=>q
  rintro rfl
  rcases hc with rfl|hc
  ·rw [hfree] at e;cases e
  ·rw [hfree] at hc;cases hc
 rcases hx with hk|hk
 ·
  refine wpAny_storeName_local hk hn (fun h' hn' hs=>?_) hcls
  obtain ⟨oL,_,_,hoL,_⟩:=id hn
  refine h _ ⟨I.ok,I.os,I.bare,⟨fun b o e n hb hx=>?_,fun b o e n hb hx=>?_,I.base.free,fun b o e hx=>?_,I.base.tups,I.base.frzs,I.base.tbls⟩,⟨_,hn',fun j y v' e1 e2 e3=>?_⟩,fun y c e=>?_,I.free,I.cb,fun p hp=>?_,tracked ⟨oL,hoL,I.free⟩ hs,by simpa using I.len⟩ ⟨_,hs,.inl rfl⟩
  ·exact (hs.2 b (Nat.ne_of_lt (Nat.lt_of_lt_of_le (Heap.lt_size e) I.ok.above))).trans (I.base.keep b o e n hb hx)
  ·
   obtain ⟨sl,e1⟩:=I.base.slot b o e n hb hx
   exact ⟨sl,(hs.2 b (Nat.ne_of_lt (Nat.lt_of_lt_of_le (Heap.lt_size e) I.ok.above))).trans e1⟩
  ·
   obtain ⟨o',e1⟩:=I.base.there b o e hx
   exact ⟨o',(hs.2 b (Nat.ne_of_lt (Nat.lt_of_lt_of_le (Heap.lt_size e) I.ok.above))).trans e1⟩
  ·
   by_cases hj:j=i
   ·
    subst hj
    rw [hi] at e1;cases e1
    rw [List.getElem?_set_self hiσ] at e2
    cases e2
    exact ⟨u,r,.inl ⟨hk,by simp⟩⟩
   ·
    rw [List.getElem?_set_ne (Ne.symm hj)] at e2
    obtain ⟨u',r',q⟩:=hl j y v' e1 e2 e3
    refine ⟨u',r',?_⟩
    rcases q with ⟨k,e⟩|⟨k,c,e,z⟩
    ·
     refine .inl ⟨k,?_⟩
     have:y≠x:=fun e=>hj (ff hN e1 (e▸hi))
     simp [this,e]
    ·exact .inr ⟨k,c,e,z.sameBut hs (cne y c e)⟩
  ·
   obtain ⟨w',z⟩:=I.cell y c e
   exact ⟨w',z.sameBut hs (cne y c e)⟩
  ·
   obtain ⟨e,n,ne,nf,d⟩:=I.pin p hp
   exact ⟨(hs.2 p.1 ne).trans e,n,ne,nf,d⟩
 ·have hfn:X.fn x=true:=by
   rcases hf with z|z
   ·exact z
   ·rw [z] at hk;cases hk
  obtain ⟨c,hc⟩:=I.ok.has x (.inl hk)
  obtain ⟨w',z⟩:=I.cell x c hc
  refine wpAny_storeName_cell I.ok.kind hk hc z (fun h' hc' hs=>?_)
  obtain ⟨oc,hoc,hocd⟩:=id z
  refine h {s with heap:=h'} ⟨I.ok,I.os,I.bare,⟨fun b o e n hb hx=>?_,fun b o e n hb hx=>?_,I.base.free,fun b o e hx=>?_,I.base.tups,I.base.frzs,I.base.tbls⟩,⟨m,hn.sameBut hs (Ne.symm (cne x c hc)),fun j y v' e1 e2 e3=>?_⟩,fun y c' e=>?_,I.free,I.cb,fun p hp=>?_,tracked ⟨oc,hoc,I.cb x c hc⟩ hs,by simpa using I.len⟩ ⟨c,hs,.inr hc⟩
  ·exact (hs.2 b (Nat.ne_of_lt (Nat.lt_of_lt_of_le (Heap.lt_size e) (I.ok.cab x c hfn hc)))).trans (I.base.keep b o e n hb hx)
  ·
   obtain ⟨sl,e1⟩:=I.base.slot b o e n hb hx
   exact ⟨sl,(hs.2 b (Nat.ne_of_lt (Nat.lt_of_lt_of_le (Heap.lt_size e) (I.ok.cab x c hfn hc)))).trans e1⟩
  ·
   obtain ⟨o',e1⟩:=I.base.there b o e hx
   exact ⟨o',(hs.2 b (Nat.ne_of_lt (Nat.lt_of_lt_of_le (Heap.lt_size e) (I.ok.cab x c hfn hc)))).trans e1⟩
  ·
   by_cases hj:j=i
   ·
    subst hj
    rw [hi] at e1;cases e1
    rw [List.getElem?_set_self hiσ] at e2
    cases e2
    exact ⟨u,r,.inr ⟨.inl hk,c,hc,hc'⟩⟩
   ·
    rw [List.getElem?_set_ne (Ne.symm hj)] at e2
    obtain ⟨u',r',q⟩:=hl j y v' e1 e2 e3
    refine ⟨u',r',?_⟩
    rcases q with q|⟨k,c',e,z'⟩
    ·exact .inl q
    ·
     refine .inr ⟨k,c',e,z'.sameBut hs ?_⟩
     rintro rfl
     exact hj (ff hN e1 (I.ok.inj _ _ _ e hc▸hi))
  ·
   by_cases hcc:c'=c
   ·subst hcc;exact ⟨_,hc'⟩
   ·
    obtain ⟨w2,z2⟩:=I.cell y c' e
    exact ⟨w2,z2.sameBut hs hcc⟩
  ·
   obtain ⟨e,n,ne,nf,d⟩:=I.pin p hp
   refine ⟨(hs.2 p.1 ?_).trans e,n,ne,nf,d⟩
   intro q
   rw [q,hoc] at e
   have q':oc=p.2:=Option.some.inj e
   exact d w' (by rw [←q'];exact hocd)
theorem cC {M:Model} {A:Around} {E:Value→Shared→Prop} {i:Nat} {x:Str} {v:V} {u:Value} {Q:Unit→Shared→Prop} (I:Inv X pins σ H s) (hN:X.N.Nodup) (hi:X.N[i]?=some x) (hx:Loc X.env.scope x) (r:RelV v u)
  (h: ∀s',Inv X pins (σ.set i (some v)) H s'→Q () s') (hf:X.fn x=true∨X.env.scope.names.lookup x=some .local:=by first|exact .inl rfl|exact .inr rfl|assumption):wpAny M A (storeName X.env x u) Q E s:=
 dS I hN hi hx r (fun s' I' _=>h s' I') hf
theorem Inv.call' {s':Shared} {ch:List Addr} (I:Inv X pins σ H s) (ho:s'.os=s.os) (u:Un (frs X.stack) ch H H' s.heap s'.heap) (hok:c6 X.prog X.w H' s'.heap) (hg:AllBare s'.gens)
  (hch: ∀b∈ch,(b∈X.ex∨X.s₀.heap.objs.size≤b)∧b≠X.env.locals∧(∀x c,X.env.cells.lookup x=some c→c≠b)∧∀p∈X.pn++pins,p.1≠b):Inv X pins σ H' s':=by
 obtain ⟨h',g',d',t',o'⟩:=s'
 have e:o'=s.os:=ho
 subst e
 exact I.call (g':=g') (t':=t') (d':=d') u hok hg hch
end
noncomputable abbrev XK:=Value→Option Addr→Hp→Prop
noncomputable abbrev St:=List (Option V)
noncomputable abbrev VK:=V→Hp→Prop
noncomputable abbrev TE:=St→Hp→VK→Prop
noncomputable abbrev TT:=St→Hp→(Bool→Hp→Prop)→Prop
noncomputable abbrev TA:=St→Hp→(List V→Hp→Prop)→Prop
structure Ends where
 nx:St→Hp→Prop
 rt:VK
 bk:St→Hp→Prop:=fun _ _=>False
 ct:St→Hp→Prop:=fun _ _=>False
noncomputable abbrev TS:=Ends→St→Hp→Prop
def EP (X:Cx) (pins:List (Addr×Obj)) (σ:St) (Q:VK) (u:Value) (s':Shared):Prop:= ∃v H',Inv X pins σ H' s'∧RelV v u∧Q v H'
def TP (X:Cx) (pins:List (Addr×Obj)) (σ:St) (Q:Bool→Hp→Prop) (b:Bool) (s':Shared):Prop:= ∃H',Inv X pins σ H' s'∧Q b H'
def AP (X:Cx) (pins:List (Addr×Obj)) (σ:St) (Q:List V→Hp→Prop) (us:List Value) (s':Shared):Prop:= ∃vs H',Inv X pins σ H' s'∧Vals vs us∧Q vs H'
def SP (X:Cx) (pins:List (Addr×Obj)) (D:Ends) (f:Flow) (s':Shared):Prop:=
 match f with
 | .next=> ∃σ' H',Inv X pins σ' H' s'∧D.nx σ' H'
 | .brk=> ∃σ' H',Inv X pins σ' H' s'∧D.bk σ' H'
 | .cont=> ∃σ' H',Inv X pins σ' H' s'∧D.ct σ' H'
 | .ret u=> ∃v σ' H',Inv X pins σ' H' s'∧RelV v u∧D.rt v H'
def PE (X:Cx) (e:Expr) (t:TE):Prop:=
 ∀(pins:List (Addr×Obj)) (s:Shared) (σ:St) (H:Hp) (Q:VK),Inv X pins σ H s→t σ H Q→wpAny (model X.prog X.w) X.A (eval e X.env) (EP X pins σ Q) X.xe s
def PT (X:Cx) (e:Expr) (t:TT):Prop:=
 ∀(pins:List (Addr×Obj)) (s:Shared) (σ:St) (H:Hp) (Q:Bool→Hp→Prop),Inv X pins σ H s→t σ H Q→wpAny (model X.prog X.w) X.A (isTrue e X.env (eval e X.env)) (TP X pins σ Q) X.xe s
def PW (X:Cx) (e:Expr) (t:TT):Prop:=
 ∀(whole:Sem Value) (pins:List (Addr×Obj)) (s:Shared) (σ:St) (H:Hp) (Q:Bool→Hp→Prop),Inv X pins σ H s→t σ H Q→wpAny (model X.prog X.w) X.A (isTrue e X.env whole) (TP X pins σ Q) X.xe s
theorem PW.pt {X:Cx} {e:Expr} {t:TT} (h:PW X e t):PT X e t:=h _
def PA (X:Cx) (es:List Expr) (t:TA):Prop:=
 ∀(pos:Pos) (pins:List (Addr×Obj)) (s:Shared) (σ:St) (H:Hp) (Q:List V→Hp→Prop),Inv X pins σ H s→t σ H Q→wpAny (model X.prog X.w) X.A (spliced (backTo pos (starEach es X.env))) (AP X pins σ Q) X.xe s
def PS (X:Cx) (st:Stmt) (t:TS):Prop:=
 ∀(pins:List (Addr×Obj)) (s:Shared) (σ:St) (H:Hp) (D:Ends),Inv X pins σ H s→t D σ H→wpAny (model X.prog X.w) X.A (exec st X.env) (SP X pins D) X.xe s
def fx (X:Cx) (st:List Stmt) (t:TS):Prop:=
 ∀(pins:List (Addr×Obj)) (s:Shared) (σ:St) (H:Hp) (D:Ends),Inv X pins σ H s→t D σ H→wpAny (model X.prog X.w) X.A (execs st X.env) (SP X pins D) X.xe s
theorem thn {α:Type} {t:Sem α} {Q Q':α→Shared→Prop} {M:Model} {A:Around} {E:Value→Shared→Prop} {s:Shared} (h:wpAny M A t Q E s) (hQ: ∀a s,Q a s→Q' a s):wpAny M A t Q' E s:=wpAny_mono h hQ fun _ _ x=>x
section
variable {X:Cx}
def gX (i:Nat):TE:=fun σ H Q=> ∃v,σ[i]?=some (some v)∧Q v H
def tC (v:V):TE:=fun _ H Q=>Q v H
theorem dq {i:Nat} {x:Str} {pos:Pos} (hN:X.N[i]?=some x) (hv:m3 X.env.scope x) (hd:(x == ("__debug__" : Str))=false:=by decide) (hcd:(x == ("__classdict__" : Str))=false:=by decide):PE X (.Name x pos) (gX i):=by
 intro pins s σ H Q I h
 obtain ⟨v,e,h⟩:=h
 obtain ⟨m,hn,hl⟩:=I.loc
 obtain ⟨u,r,l⟩:=hl i x v hN e hv
 have fin:EP X pins σ Q u s:=⟨v,H,I,r,h⟩
 rcases l with ⟨hk,hm⟩|⟨hk,c,hc,hcell⟩
 ·exact wpAny_Name (wpAny_loadName_local I.ok.kind hk hn hm fin) hd
 ·
  rcases hk with hk|hk
  ·exact wpAny_Name (wpAny_loadName_cell I.ok.kind hk hc hcell fin) hd
  ·exact wpAny_Name (wpAny_loadName_free I.ok.kind hk hc hcell fin hcd) hd
theorem ah {i j pos}:PE X (.Constant (.int i) j pos) (tC (.int i)):=fun _ _ _ H _ I h=>wpAny_Constant_int ⟨.int i,H,I.tok _,⟨_,rfl⟩,h⟩
theorem dv {b j pos}:PE X (.Constant (.bool b) j pos) (tC (.bl b)):=fun _ _ _ H _ I h=>Constant_bool ⟨.bl b,H,I,rfl,h⟩
def Gl (X:Cx) (x:Str):Prop:=X.env.kindOf x=some .globalImplicit
theorem ky {E:Value→Shared→Prop} {pins:List (Addr×Obj)} {s:Shared} {σ:St} {H:Hp} {x:Str} {u:Value} {pos:Pos} {Q:Value→Shared→Prop} (I:Inv X pins σ H s) (hg:Gl X x) (hm:X.mg x=some u) (h:Q u s)
  (hd:(x == ("__debug__" : Str))=false:=by decide):wpAny (model X.prog X.w) X.A (eval (.Name x pos) X.env) Q E s:=
 Calls.Name_function_global I.ok.kind hg (Calls.loadGlobal_global (by rw [I.ok.glob];exact I.mod.glob.keeps I.bk) hm h) hd
theorem eF {E:Value→Shared→Prop} {pins:List (Addr×Obj)} {s:Shared} {σ:St} {H:Hp} {x:Str} {u:Value} {pos:Pos} {Q:Value→Shared→Prop} (I:Inv X pins σ H s) (hg:Gl X x) (hm:X.mg x=none) (hv:bootBuiltins x=some u) (h:Q u s)
  (hn:x≠ "__name__" :=by decide) (hd:(x == ("__debug__" : Str))=false:=by decide):wpAny (model X.prog X.w) X.A (eval (.Name x pos) X.env) Q E s:=by
 obtain ⟨mb,h1,h2⟩:=I.mod.blt
 exact Calls.Name_function_global I.ok.kind hg (Calls.loadGlobal_builtin (by rw [I.ok.glob];exact I.mod.glob.keeps I.bk) hm (by rw [I.ok.blt];exact h1.keeps I.bk) ((h2 x hn).trans hv) h) hd
theorem kn {x:Str} {v:V} {u:Value} {pos:Pos} (hg:Gl X x) (hm:X.mg x=none) (hv:bootBuiltins x=some u) (r:RelV v u) (hn:x≠ "__name__" :=by decide) (hd:(x == ("__debug__" : Str))=false:=by decide):PE X (.Name x pos) (tC v):=
 fun _ _ _ H _ I h=>eF I hg hm hv ⟨v,H,I,r,h⟩ hn hd
variable {a b:Expr} {ta tb:TE} {pos:Pos}
def tB (t:TE):TT:=fun σ H Q=>t σ H fun x H1=> ∃c,x = .bl c∧Q c H1
theorem lW {e:Expr} {t:TE} (h:PE X e t) (he: ∀whole,isTrue e X.env whole=(do let v←whole;standAt e.pos;holding [v] (truthy v)):=by intro _;rfl):PT X e (tB t):=by
 intro pins s σ H Q I hw
 refine isTrue_plain (thn (h pins s σ H _ I hw) fun v s1 ⟨x,H1,I1,r1,q1⟩=>?_) (he _)
 obtain ⟨d,rfl,q⟩:=q1
 cases r1
 exact wpAny_truthy_bool ⟨H1,I1,q⟩
variable {tA tB':TT} {rest:List Expr}
def nk (t u:TT):TT:=fun σ H Q=>t σ H fun c H1=>if c=true then u σ H1 Q else Q false H1
def o3 (t u:TT):TT:=fun σ H Q=>t σ H fun c H1=>if c=true then Q true H1 else u σ H1 Q
def m9 (t:TT):TT:=fun σ H Q=>t σ H fun c H1=>Q (!c) H1
theorem pw_and1 (ha:PT X a tA):PW X (.BoolOp .And [a] pos) tA:=by
 intro wh pins s σ H Q I h
 refine isTrue_and (thn (ha pins s σ H Q I h) fun c s1 e=>?_)
 cases c with
 |true=>exact isTrue_and_nil e
 |false=>exact e
theorem pw_or1 (ha:PT X a tA):PW X (.BoolOp .Or [a] pos) tA:=by
 intro wh pins s σ H Q I h
 refine isTrue_or (thn (ha pins s σ H Q I h) fun c s1 e=>?_)
 cases c with
 |false=>exact isTrue_or_nil e
 |true=>exact e
theorem pw_and (ha:PT X a tA) (hb:PW X (.BoolOp .And (b::rest) pos) tB'):PW X (.BoolOp .And (a::b::rest) pos) (nk tA tB'):=by
 intro wh pins s σ H Q I h
 refine isTrue_and (thn (ha pins s σ H _ I h) fun c s1 ⟨H1,I1,q1⟩=>?_)
 cases c with
 |true=>exact hb wh pins s1 σ H1 Q I1 q1
 |false=>exact ⟨H1,I1,q1⟩
theorem pw_or (ha:PT X a tA) (hb:PW X (.BoolOp .Or (b::rest) pos) tB'):PW X (.BoolOp .Or (a::b::rest) pos) (o3 tA tB'):=by
 intro wh pins s σ H Q I h
 refine isTrue_or (thn (ha pins s σ H _ I h) fun c s1 ⟨H1,I1,q1⟩=>?_)
 cases c with
 |true=>exact ⟨H1,I1,q1⟩
 |false=>exact hb wh pins s1 σ H1 Q I1 q1
theorem cS (ha:PT X a tA):PT X (.UnaryOp .Not a pos) (m9 tA):=by
 intro pins s σ H Q I h
 exact isTrue_not (ha pins s σ H (fun c H1=>Q (!c) H1) I h)
def lb (ta tb:TE):TE:=fun σ H Q=>ta σ H fun x H1=> ∃c,x = .bl c∧if c=true then tb σ H1 Q else Q (.bl false) H1
def oB (ta tb:TE):TE:=fun σ H Q=>ta σ H fun x H1=> ∃c,x = .bl c∧if c=true then Q (.bl true) H1 else tb σ H1 Q
def k9 (ta:TE):TE:=fun σ H Q=>ta σ H fun x H1=> ∃c,x = .bl c∧Q (.bl (!c)) H1
theorem lZ {op} {t:TE} (h:PE X a t):PE X (.BoolOp op [a] pos) t:=fun pins s σ H Q I hw=>BoolOp_one (h pins s σ H Q I hw)
theorem l7 (ha:PE X a ta) (hb:PE X (.BoolOp .And (b::rest) pos) tb):PE X (.BoolOp .And (a::b::rest) pos) (lb ta tb):=by
 intro pins s σ H Q I h
 refine BoolOp_and (thn (ha pins s σ H _ I h) fun v s1 ⟨x,H1,I1,r1,q1⟩=>?_)
 obtain ⟨c,rfl,q1⟩:=q1
 cases r1
 refine wpAny_truthy_bool ?_
 cases c with
 |true=>exact hb pins s1 σ H1 Q I1 q1
 |false=>exact ⟨.bl false,H1,I1,rfl,q1⟩
theorem l5 (ha:PE X a ta):PE X (.UnaryOp .Not a pos) (k9 ta):=by
 intro pins s σ H Q I h
 refine UnaryOp_ (thn (ha pins s σ H _ I h) fun v s1 ⟨x,H1,I1,r1,q1⟩=>?_)
 obtain ⟨c,rfl,q1⟩:=q1
 cases r1
 exact not_of (wpAny_truthy_bool ⟨.bl (!c),H1,I1,rfl,q1⟩)
def o_ (t:TT) (ta tb:TE):TE:=fun σ H Q=>t σ H fun c H1=>if c=true then ta σ H1 Q else tb σ H1 Q
end
def aF (K:PySem.W.Frag) (H:Hp) (a:Addr) (xs:List V):Prop:=
 Rd H a (.lst xs)∨
  ∃(o:Obj) (its:Array Value) (n:Nat),K.lookup a=some o∧o.cls = .type "list" ∧o.dict=none∧o.data = .seq its n∧its.size≤sizeLine∧Vals xs its.toList
def bV (K:PySem.W.Frag) (H:Hp) (a:Addr) (xs:List V):Prop:=
 Rd H a (.tup xs)∨
  ∃(o:Obj) (its:Array Value) (n:Nat),K.lookup a=some o∧o.cls = .type "tuple" ∧o.data = .seq its n∧its.size≤sizeLine∧Vals xs its.toList
noncomputable def oR:Value→Option V
 | .none=>some .non
 | .bool b=>some (.bl b)
 | .int i _=>some (.int i)
 | .str x _=>some (.str x)
 | .bytes b _=>some (.byt b)
 | .float b _=>some (.flt b)
 | .ref a=>some (.ref a)
 | .type n=>some (.ty n)
 |_=>none
theorem RelV.abs {x:V} {u:Value} (r:RelV x u):oR u=some x:=by
 cases x with
 |non=>cases r;rfl
 |bl _=>cases r;rfl
 |int _=>obtain ⟨t,rfl⟩:=r;rfl
 |str _=>obtain ⟨t,rfl⟩:=r;rfl
 |byt _=>obtain ⟨t,rfl⟩:=r;rfl
 |flt _=>obtain ⟨t,rfl⟩:=r;rfl
 |ref _=>cases r;rfl
 |ty _=>cases r;rfl
theorem RelV.inj {x y:V} {u:Value} (r:RelV x u) (q:RelV y u):x=y:=Option.some.inj (r.abs.symm.trans q.abs)
theorem Vals.inj: ∀{xs ys:List V} {us:List Value},Vals xs us→Vals ys us→xs=ys
 |_,_,_,.nil,.nil=>rfl
 |_,_,_,.cons r t,.cons r' t'=>by rw [r.inj r',Vals.inj t t']
section
variable {X:Cx} {pins:List (Addr×Obj)} {σ:St} {H:Hp} {s:Shared} {a:Addr} {xs ys:List V}
theorem aF.of {K:PySem.W.Frag} (h:H a=some (.lst xs)):aF K H a xs:= .inl (.inl h)
theorem bV.of {K:PySem.W.Frag} (h:H a=some (.tup xs)):bV K H a xs:= .inl (.inl h)
theorem Inv.list (I:Inv X pins σ H s) (h:aF X.K H a xs): ∃its:List Value,Vals xs its∧PlainL s.heap a its.toArray∧xs.length≤sizeLine:=by
 rcases h with h|⟨o,its,n,hk,hc,hd,hs,hz,r⟩
 ·
  obtain ⟨z,its,n,r,e⟩:=h.ok I.hok
  exact ⟨its,r,⟨_,n,e,rfl,rfl,rfl⟩,z⟩
 ·
  refine ⟨its.toList,r,⟨o,n,I.eS a o hk,hc,hd,by simpa using hs⟩,?_⟩
  have e:=r.length
  simp only [Array.length_toList] at e
  omega
theorem Inv.tuple (I:Inv X pins σ H s) (h:bV X.K H a xs): ∃its:List Value,Vals xs its∧IsTup s.heap a its.toArray∧xs.length≤sizeLine:=by
 rcases h with h|⟨o,its,n,hk,hc,hs,hz,r⟩
 ·
  obtain ⟨z,its,r,p⟩:=h.ok I.hok
  exact ⟨its,r,p,z⟩
 ·
  refine ⟨its.toList,r,⟨o,I.eS a o hk,hc,n,by simpa using hs⟩,?_⟩
  have e:=r.length
  simp only [Array.length_toList] at e
  omega
theorem Inv.fg (I:Inv X pins σ H s) (h:aF X.K H a xs) (h':aF X.K H a ys):xs=ys:=by
 obtain ⟨its,r,⟨o,n,e,_,_,d⟩,_⟩:=I.list h
 obtain ⟨its',r',⟨o',n',e',_,_,d'⟩,_⟩:=I.list h'
 rw [e] at e';cases e'
 rw [d] at d'
 injection d' with d1 _
 have:its=its':=by simpa using congrArg Array.toList d1
 subst this
 exact r.inj r'
theorem Inv.dP (I:Inv X pins σ H s) (h:bV X.K H a xs) (h':bV X.K H a ys):xs=ys:=by
 obtain ⟨its,r,⟨o,e,_,n,d⟩,_⟩:=I.tuple h
 obtain ⟨its',r',⟨o',e',_,n',d'⟩,_⟩:=I.tuple h'
 rw [e] at e';cases e'
 rw [d] at d'
 injection d' with d1 _
 have:its=its':=by simpa using congrArg Array.toList d1
 subst this
 exact r.inj r'
end
noncomputable abbrev Cx.wish (X:Cx) (E:Value→Shared→Prop):Cx:={X with xe:=E}
noncomputable abbrev Cx.nox (X:Cx):Cx:=X.wish fun _ _=>False
theorem Cx.Ok.wish {X:Cx} (ok:X.Ok) (E:Value→Shared→Prop):(X.wish E).Ok:=
 ⟨ok.mod,ok.kind,ok.glob,ok.blt,ok.above,ok.inj,ok.has,ok.cab,ok.hd,ok.frames,ok.stk,ok.exf,ok.bs,ok.bsz,ok.noex,ok.exfs,ok.funs,ok.frf⟩
theorem Cx.Ok.unwish {X:Cx} {E:Value→Shared→Prop} (ok:(X.wish E).Ok):X.Ok:=
 ⟨ok.mod,ok.kind,ok.glob,ok.blt,ok.above,ok.inj,ok.has,ok.cab,ok.hd,ok.frames,ok.stk,ok.exf,ok.bs,ok.bsz,ok.noex,ok.exfs,ok.funs,ok.frf⟩
section
variable {X:Cx} {pins:List (Addr×Obj)} {σ:St} {H:Hp} {s:Shared} {E:Value→Shared→Prop}
theorem Inv.wish (I:Inv X pins σ H s) (E:Value→Shared→Prop):Inv (X.wish E) pins σ H s:=⟨I.ok.wish E,I.os,I.bare,I.base,I.loc,I.cell,I.free,I.cb,I.pin,I.hok,I.len⟩
theorem Inv.unwish (I:Inv (X.wish E) pins σ H s):Inv X pins σ H s:=⟨I.ok.unwish,I.os,I.bare,I.base,I.loc,I.cell,I.free,I.cb,I.pin,I.hok,I.len⟩
theorem SP.unwish {D:Ends} {f:Flow} {s':Shared} (h:SP (X.wish E) pins D f s'):SP X pins D f s':=by
 cases f with
 |next=>obtain ⟨σ',H',I,q⟩:=h;exact ⟨σ',H',I.unwish,q⟩
 |brk=>obtain ⟨σ',H',I,q⟩:=h;exact ⟨σ',H',I.unwish,q⟩
 |cont=>obtain ⟨σ',H',I,q⟩:=h;exact ⟨σ',H',I.unwish,q⟩
 |ret u=>obtain ⟨v,σ',H',I,r,q⟩:=h;exact ⟨v,σ',H',I.unwish,r,q⟩
theorem fx.nox {st:List Stmt} {t:TS} (h:fx X.nox st t):fx X st t:=fun pins s σ H D I hw=>
 wpAny_mono (h pins s σ H D (I.wish _) hw) (fun _ _ q=>q.unwish) fun _ _ z=>False.elim z
end
section
variable {X:Cx} {st:Stmt} {rest:List Stmt} {t u:TS} {e:Expr} {te:TE} {pos:Pos}
def k_:TS:=fun D σ H=>D.nx σ H
def jR (t u:TS):TS:=fun D σ H=>t {D with nx:=u D} σ H
theorem aU:fx X [] k_:=fun _ _ σ H _ I h=>wpAny_execs_nil ⟨σ,H,I,h⟩
theorem ai (h1:PS X st t) (h2:fx X rest u):fx X (st::rest) (jR t u):=by
 intro pins s σ H D I h
 refine wpAny_execs_cons (thn (h1 pins s σ H {D with nx:=u D} I h) fun f s1 q=>?_)
 cases f with
 |next=>
  obtain ⟨σ',H',I',q⟩:=q
  exact h2 pins s1 σ' H' D I' q
 |ret v=>exact q
 |brk=>exact q
 |cont=>exact q
theorem ar (h1:PS X st t):fx X [st] t:=by
 intro pins s σ H D I h
 refine wpAny_execs_cons (thn (h1 pins s σ H D I h) fun f s1 q=>?_)
 cases f with
 |next=>exact wpAny_execs_nil q
 |ret v=>exact q
 |brk=>exact q
 |cont=>exact q
def lG:TS:=fun D σ H=>D.bk σ H
def ni:TS:=fun D σ H=>D.ct σ H
theorem Inv.quiet {pins:List (Addr×Obj)} {σ:St} {H:Hp} {s:Shared} (I:Inv X pins σ H s):interactive X.env=false:=by simp [interactive,I.ok.kind]
def gn (te:TE):TS:=fun D σ H=>te σ H fun _ H1=>D.nx σ H1
theorem kj (he:PE X e te) (hs:swapsWith e none pos.line X.env=pure false:=by rfl):PS X (.Expr e pos) (gn te):=by
 intro pins s σ H D I h
 exact wpAny_Expr_any (thn (he pins s σ H _ I h) fun v s1 ⟨x,H1,I1,r1,q1⟩=>⟨σ,H1,I1,q1⟩) I.quiet hs
def m7 (te:TE):TS:=fun D σ H=>te σ H D.rt
theorem aB (he:PE X e te):PS X (.Return (some e) pos) (m7 te):=by
 intro pins s σ H D I h
 exact wpAny_Return_some (thn (he pins s σ H _ I h) fun v s1 ⟨x,H1,I1,r1,q1⟩=>⟨x,σ,H1,I1,r1,q1⟩)
def m6:TS:=fun D _ H=>D.rt .non H
def ng (c:TT) (t u:TS):TS:=fun D σ H=>c σ H fun b H1=>if b=true then t D σ H1 else u D σ H1
theorem b7 {c:Expr} {a b:List Stmt} {tc:TT} (hc:PT X c tc) (ha:fx X a t) (hb:fx X b u):PS X (.If c a b pos) (ng tc t u):=by
 intro pins s σ H D I h
 refine wpAny_If (thn (hc pins s σ H _ I h) fun d s1 ⟨H1,I1,q1⟩=>?_)
 cases d with
 |true=>exact ha pins s1 σ H1 D I1 q1
 |false=>exact hb pins s1 σ H1 D I1 q1
end
noncomputable abbrev TG:=V→St→Hp→(St→Hp→Prop)→Prop
noncomputable abbrev jJ:=List V→St→Hp→(St→Hp→Prop)→Prop
def PG (X:Cx) (target:Expr) (t:TG):Prop:=
 ∀(pins:List (Addr×Obj)) (s:Shared) (σ:St) (H:Hp) (v:V) (u:Value) (Q:St→Hp→Prop),Inv X pins σ H s→RelV v u→t v σ H Q→
  wpAny (model X.prog X.w) X.A (assign target X.env u) (fun _ s'=> ∃σ' H',Inv X pins σ' H' s'∧Q σ' H') X.xe s
noncomputable abbrev oS:=V→V→V→Hp→(Hp→Prop)→Prop
section
variable {X:Cx} {pos:Pos}
def cK (i:Nat):TG:=fun v σ H Q=>Q (σ.set i (some v)) H
theorem a_ {i:Nat} {x:Str} (hN:X.N.Nodup) (hi:X.N[i]?=some x) (hx:Loc X.env.scope x) (hf:X.fn x=true∨X.env.scope.names.lookup x=some .local:=by first|exact .inl rfl|exact .inr rfl|assumption):PG X (.Name x pos) (cK i):=by
 intro pins s σ H v u Q I r h
 exact wpAny_assign_Name (cC I hN hi hx r (fun s' I'=>⟨_,H,I',h⟩) hf)
def oQ:jJ:=fun vs σ H Q=>vs= []∧Q σ H
def n3 (t:TG) (u:jJ):jJ:=fun vs σ H Q=> ∃v r,vs=v::r∧t v σ H fun σ' H'=>u r σ' H' Q
def oO (K:PySem.W.Frag) (n:Nat) (t:jJ):TG:=fun v σ H Q=> ∃a xs,v = .ref a∧bV K H a xs∧xs.length=n∧t xs σ H Q
def oP (to ti:TE) (t:oS):TG:=fun v σ H Q=>to σ H fun o H1=>ti σ H1 fun i H2=>t o i v H2 fun H3=>Q σ H3
def jV (te:TE) (g:TG):TS:=fun D σ H=>te σ H fun x H1=>g x σ H1 D.nx
theorem lX {i:Nat} {x:Str} {e:Expr} {te:TE} {pos':Pos} (hN:X.N.Nodup) (hi:X.N[i]?=some x) (hx:Loc X.env.scope x) (he:PE X e te) (hs:swapsWith e (some (.Name x pos')) pos.line X.env=pure false:=by rfl) (hf:X.fn x=true∨X.env.scope.names.lookup x=some .local:=by first|exact .inl rfl|exact .inr rfl|assumption):
  PS X (.Assign [.Name x pos'] e pos) (jV te (cK i)):=by
 intro pins s σ H D I h
 refine wpAny_Assign_Name (thn (he pins s σ H _ I h) fun v s1 ⟨y,H1,I1,r1,q1⟩=>?_) hs
 exact cC I1 hN hi hx r1 (fun s2 I2=>⟨_,H1,I2,q1⟩) hf
end
section
variable {X:Cx} {pos:Pos}
end
structure It where
 go:Nat→Hp→Prop
 yld:Nat→Hp→V→Hp→Prop
 stop:Nat→Hp→Prop
def dC (X:Cx) (pins:List (Addr×Obj)) (H:Hp) (b:Addr):Prop:=
 H b=none∧b≠X.env.locals∧b ∉ X.fs∧(b∈X.ex∨X.s₀.heap.objs.size≤b)∧(∀x c,X.env.cells.lookup x=some c→c≠b)∧∀p∈X.pn++pins,p.1≠b
theorem Inv.iD {X:Cx} {pins:List (Addr×Obj)} {σ:St} {H H':Hp} {s:Shared} {b:Addr} (I:Inv X pins σ H s) (hb:s.heap.objs.size≤b) (hn:H' b=none):dC X pins H' b:=by
 refine ⟨hn,Nat.ne_of_gt (Nat.lt_of_lt_of_le I.lt hb),I.nofs hb,.inr (Nat.le_trans I.sz hb),fun x c e z=>?_,fun p hp z=>?_⟩
 ·
  obtain ⟨v,q⟩:=I.cell x c e
  exact absurd (Nat.lt_of_lt_of_le q.lt (by rw [z];exact hb)) (Nat.lt_irrefl _)
 ·exact absurd (Nat.lt_of_lt_of_le (Heap.lt_size (I.pin p hp).1) (by rw [z];exact hb)) (Nat.lt_irrefl _)
structure Turn (P:Program) (w:World) (K:PySem.W.Frag) (tg:Expr) (J:It) (fp:List Addr) (it:Addr) (tn:Nat→Heap→Prop):Prop where
 mem:it∈fp
 obj: ∀i h,tn i h→∀b∈fp,∃o,h.get? b=some o∧∀v,o.data≠ .cell v
 keep: ∀i h h',tn i h→(∀b∈fp,∀o,h.get? b=some o→h'.get? b=some o)→tn i h'
 item: ∀(X:Cx),X.prog=P→X.w=w→X.K=K→X.calm=true→∀(i:Nat) (pins:List (Addr×Obj)) (s:Shared) (σ:St) (H:Hp) (E:Value→Shared→Prop),Inv X pins σ H s→(∀b∈fp,dC X pins H b)→tn i s.heap→J.go i H→
  wpAny (model P w) X.A (pyNext (.ref it)) (fun r s1=> ∃u,r=some u∧
   wpAny (model P w) X.A (letOwnedTupleGo tg (.ref it) u) (fun _ s2=> ∃x H',Inv X pins σ H' s2∧RelV x u∧J.yld i H x H'∧tn (i+1) s2.heap∧∀b∈fp,H' b=none) E s1) E s
 done: ∀(X:Cx),X.prog=P→X.w=w→X.K=K→X.calm=true→∀(i:Nat) (pins:List (Addr×Obj)) (s:Shared) (σ:St) (H:Hp) (E:Value→Shared→Prop),Inv X pins σ H s→(∀b∈fp,dC X pins H b)→tn i s.heap→J.stop i H→
  wpAny (model P w) X.A (pyNext (.ref it)) (fun r s1=>r=none∧Inv X pins σ H s1) E s
 self: ∀(A:Around) (i:Nat) (s:Shared) (Q:Value→Shared→Prop) (E:Value→Shared→Prop),tn i s.heap→Q (.ref it) s→wpAny (model P w) A (pyIter (.ref it)) Q E s
noncomputable abbrev TI:=St→Hp→(It→Hp→Prop)→Prop
def o4 (X:Cx) (pins:List (Addr×Obj)) (σ:St) (tg:Expr) (R:It→Hp→Prop) (itv:Value) (s2:Shared):Prop:=
 ∃(it:Addr) (fp:List Addr) (tn:Nat→Heap→Prop) (J:It) (H':Hp),itv = .ref it∧Inv X pins σ H' s2∧Turn X.prog X.w X.K tg J fp it tn∧tn 0 s2.heap∧(∀b∈fp,dC X pins H' b)∧R J H'
def PI (X:Cx) (tg iter:Expr) (wi:TI):Prop:=
 ∀(pins:List (Addr×Obj)) (s:Shared) (σ:St) (H:Hp) (R:It→Hp→Prop),Inv X pins σ H s→wi σ H R→
  wpAny (model X.prog X.w) X.A (eval iter X.env) (fun v s1=>wpAny (model X.prog X.w) X.A (pyIter v) (o4 X pins σ tg R) X.xe s1) X.xe s
theorem gH {M:Model} {A:Around} {E:Value→Shared→Prop} {s:Shared} {tg:Expr} {it:Addr} {u:Value} {o:Obj} {n:String} {vs:Array Value} {Q:Unit→Shared→Prop} (ho:s.heap.get? it=some o) (hc:o.cls = .type n) (hd:o.data = .fields vs)
    (hn: ["enumerate","zip","dict_itemiterator","dict_reverseitemiterator","odict_iterator","itertools.zip_longest","itertools.pairwise"].contains n=false) (hQ:Q () s):wpAny M A (letOwnedTupleGo tg (.ref it) u) Q E s:=by
  unfold letOwnedTupleGo
  cases tg<;>first
    |exact wpAny_pure hQ
    |(cases u<;>first
        |exact wpAny_pure hQ
        |(
           refine wpAny_bind (wpAny_load ho ?_)
           rw [hc,hd]
           show wpAny M A (if (["enumerate","zip","dict_itemiterator","dict_reverseitemiterator","odict_iterator","itertools.zip_longest","itertools.pairwise"].contains n&&vs[0]? == some (rawInt _))=true then _ else _) Q E s
           rw [if_neg (by intro h;rw [hn,Bool.false_and] at h;cases h)]
           exact wpAny_pure hQ))
noncomputable def om (K:PySem.W.Frag) (a:Addr):It:=
 ⟨fun i H=> ∃xs x,aF K H a xs∧xs[i]?=some x,fun i H x H'=>H'=H∧∀xs,aF K H a xs→xs[i]?=some x,fun i H=> ∃xs,aF K H a xs∧xs.length≤i⟩
noncomputable def o6 (K:PySem.W.Frag) (a:Addr):It:=
 ⟨fun i H=> ∃xs x,bV K H a xs∧xs[i]?=some x,fun i H x H'=>H'=H∧∀xs,bV K H a xs→xs[i]?=some x,fun i H=> ∃xs,bV K H a xs∧xs.length≤i⟩
noncomputable def iL (lo:Int) (n:Nat):It:=⟨fun i _=>i<n,fun i H x H'=>H'=H∧x = .int (lo+i),fun i _=>n≤i⟩
theorem gW {P:Program} {w:World} {K:PySem.W.Frag} {tg:Expr} (a it:Addr):Turn P w K tg (om K a) [it] it (fun i h=>h.IsListIter it a i) where
 mem:=by simp
 obj:=fun i h st b hb=>by
  have e:b=it:=by simpa using hb
  subst e
  obtain ⟨o,e,c,d⟩:=st
  exact ⟨o,e,fun v z=>by rw [d] at z;cases z⟩
 keep:=fun i h h' st k=>st.at fun o e=>k it (by simp) o e
 item:=by
  intro X hP hw hK hc i pins s σ H E I hf st hg
  subst hP hw hK
  obtain ⟨xs,x,hq,hx⟩:=hg
  obtain ⟨its,rv,p,hz⟩:=I.list hq
  obtain ⟨u,hu,ru⟩:=rv.get hx
  obtain ⟨f0,f1,f2,f3,f4,f5⟩:=hf it (by simp)
  refine wpAny_pyNext_list_item st p.isList (x:=u) (by simpa using hu) fun h' st' sb=>?_
  have I1:Inv X pins σ H {s with heap:=h'}:=I.turned (t':=s.toks) (fun b o hb e=>(sb.2 b hb).trans e) f0 f1 f3 f4 f5
  obtain ⟨o,e,c,d⟩:=id st'
  exact ⟨u,rfl,gH (s:={s with heap:=h'}) e c d (by decide) ⟨x,H,I1,ru,⟨rfl,fun ys hy=>by rw [I.fg hy hq];exact hx⟩,st',fun b hb=>(hf b hb).1⟩⟩
 done:=by
  intro X hP hw hK hc i pins s σ H E I hf st hg
  subst hP hw hK
  obtain ⟨xs,hq,hx⟩:=hg
  obtain ⟨its,rv,p,hz⟩:=I.list hq
  obtain ⟨f0,f1,f2,f3,f4,f5⟩:=hf it (by simp)
  have hl:=rv.length
  exact wpAny_pyNext_list_end (I.ok.hd hc) st p.isList (by simp;omega) fun h' eb=>⟨rfl,I.turned (t':=s.toks) (fun b o hb e=>eb b o hb e) f0 f1 f3 f4 f5⟩
 self:=fun _ _ _ _ _ st h=>wpAny_pyIter_listiter st h
theorem fz {P:Program} {w:World} {K:PySem.W.Frag} {tg:Expr} (a it:Addr):Turn P w K tg (o6 K a) [it] it (fun i h=>h.IsTupleIter it a i) where
 mem:=by simp
 obj:=fun i h st b hb=>by
  have e:b=it:=by simpa using hb
  subst e
  obtain ⟨o,e,c,d⟩:=st
  exact ⟨o,e,fun v z=>by rw [d] at z;cases z⟩
 keep:=fun i h h' st k=>st.at fun o e=>k it (by simp) o e
 item:=by
  intro X hP hw hK hc i pins s σ H E I hf st hg
  subst hP hw hK
  obtain ⟨xs,x,hq,hx⟩:=hg
  obtain ⟨its,rv,p,hz⟩:=I.tuple hq
  obtain ⟨u,hu,ru⟩:=rv.get hx
  obtain ⟨f0,f1,f2,f3,f4,f5⟩:=hf it (by simp)
  refine wpAny_pyNext_tuple_item st (show s.heap.IsTuple a its.toArray from p) (x:=u) (by simpa using hu) fun h' st' sb=>?_
  have I1:Inv X pins σ H {s with heap:=h'}:=I.turned (t':=s.toks) (fun b o hb e=>(sb.2 b hb).trans e) f0 f1 f3 f4 f5
  obtain ⟨o,e,c,d⟩:=id st'
  exact ⟨u,rfl,gH (s:={s with heap:=h'}) e c d (by decide) ⟨x,H,I1,ru,⟨rfl,fun ys hy=>by rw [I.dP hy hq];exact hx⟩,st',fun b hb=>(hf b hb).1⟩⟩
 done:=by
  intro X hP hw hK hc i pins s σ H E I hf st hg
  subst hP hw hK
  obtain ⟨xs,hq,hx⟩:=hg
  obtain ⟨its,rv,p,hz⟩:=I.tuple hq
  obtain ⟨f0,f1,f2,f3,f4,f5⟩:=hf it (by simp)
  have hl:=rv.length
  exact wpAny_pyNext_tuple_end (I.ok.hd hc) st (show s.heap.IsTuple a its.toArray from p) (by simp;omega) fun h' eb=>⟨rfl,I.turned (t':=s.toks) (fun b o hb e=>eb b o hb e) f0 f1 f3 f4 f5⟩
 self:=fun _ _ _ _ _ st h=>wpAny_pyIter_tupleiter st h
theorem fA {P:Program} {w:World} {K:PySem.W.Frag} {tg:Expr} (it:Addr) (lo:Int) (n:Nat):Turn P w K tg (iL lo n) [it] it (fun i h=>IsRangeIter h it (lo+(i:Nat)*1) ((n:Int) - (i:Nat)) 1) where
 mem:=by simp
 obj:=fun i h st b hb=>by
  have e:b=it:=by simpa using hb
  subst e
  exact ⟨_,st,fun v z=>by
   have z':Data.fields _=Data.cell v:=z
   cases z'⟩
 keep:=fun i h h' st k=>k it (by simp) _ st
 item:=by
  intro X hP hw hK hc i pins s σ H E I hf st hg
  subst hP hw hK
  obtain ⟨f0,f1,f2,f3,f4,f5⟩:=hf it (by simp)
  have W:=Walks.range (prog:=X.prog) (w:=X.w) (I.ok.hd hc) it lo 1 n
  refine W.item i s _ _ hg st fun v h' tk hv st' kk=>?_
  obtain ⟨t,rfl⟩:=hv
  have I1:Inv X pins σ H {s with heap:=h',toks:=tk}:=I.turned (fun b o hb e=>kk b o (by simpa using hb) e) f0 f1 f3 f4 f5
  refine ⟨_,rfl,gH (s:={s with heap:=h',toks:=tk}) (n:="range_iterator") st' rfl rfl (by decide) ⟨.int (lo+i),H,I1,⟨t,?_⟩,⟨rfl,rfl⟩,st',fun b hb=>(hf b hb).1⟩⟩
  rw [Int.mul_one]
 done:=by
  intro X hP hw hK hc i pins s σ H E I hf st hg
  subst hP hw hK
  obtain ⟨f0,f1,f2,f3,f4,f5⟩:=hf it (by simp)
  exact wpAny_pyNext_range_end (I.ok.hd hc) st (by have:n≤i:=hg;omega) fun h' eb=>⟨rfl,I.turned (t':=s.toks) (fun b o hb e=>eb b o hb e) f0 f1 f3 f4 f5⟩
 self:=fun _ _ _ _ _ st h=>wpAny_pyIter_rangeiter st h
section
variable {X:Cx} {tg:Expr}
theorem iV {pins:List (Addr×Obj)} {σ:St} {H:Hp} {s:Shared} {R:It→Hp→Prop} {E:Value→Shared→Prop} {lo hi:Int} {t u v:Tok} {tk:Nat} (I:Inv X pins σ H s) (h1 : -(2 ^ 62)≤lo) (h2:lo<2 ^ 62) (h3 : -(2 ^ 62)≤hi) (h4:hi<2 ^ 62)
  (q:R (iL lo (hi - lo).toNat) H):wpAny (model X.prog X.w) X.A (pyIter (.ref s.heap.objs.size)) (o4 X pins σ tg R) E {s with heap:=s.heap.push {cls:= .type "range",data:= .fields #[.int lo t,.int hi u,.int 1 v]},toks:=tk}:=by
 refine wpAny_pyIter_range (IsRange.new ..) (small_one h1 h2 h3 h4) ?_
 have I1:Inv X pins σ H {s with heap:=s.heap.push {cls:= .type "range",data:= .fields #[.int lo t,.int hi u,.int 1 v]},toks:=tk}:=I.kept fun b o e=>Heap.get?_push_of_some _ e
 refine ⟨(s.heap.push {cls:= .type "range",data:= .fields #[.int lo t,.int hi u,.int 1 v]}).objs.size,[(s.heap.push {cls:= .type "range",data:= .fields #[.int lo t,.int hi u,.int 1 v]}).objs.size],_,_,H,rfl,
  I1.kept (t':=tk) fun b o e=>Heap.get?_push_of_some _ e,fA _ lo (hi - lo).toNat,?_,fun b hb=>?_,q⟩
 ·
  have e1:lo+((0:Nat):Int)*1=lo:=by simp
  have e2:(((hi - lo).toNat:Nat):Int) - ((0:Nat):Int)=Builtin.Range.rangeSize lo hi 1:=by rw [rangeSize_one];split<;>omega
  show IsRangeIter _ _ (lo+((0:Nat):Int)*1) ((((hi - lo).toNat:Nat):Int) - ((0:Nat):Int)) 1
  rw [e1,e2]
  exact Heap.get?_push_size _ rfl
 ·
  have e:b=(s.heap.push {cls:= .type "range",data:= .fields #[.int lo t,.int hi u,.int 1 v]}).objs.size:=by simpa using hb
  subst e
  exact I1.iD (Nat.le_refl _) (I1.hok.fresh (Nat.le_refl _))
def iQ (wi:TI) (g:TG) (tb:TS):TS:=fun D σ H=>wi σ H fun J H1=> ∃W:Nat→Nat→St→Hp→Prop,(∃m,W 0 m σ H1)∧∀i m σ H,W i m σ H→
 (J.stop i H∧D.nx σ H)∨(J.go i H∧∃N:St→Hp→Prop,(∀σ' H',N σ' H'→∃m',m'<m∧W (i+1) m' σ' H')∧∀x H',J.yld i H x H'→g x σ H' fun σ2 H2=>tb {D with nx:=N,ct:=N,bk:=D.nx} σ2 H2)
noncomputable def dm (fp:List Addr) (h:Heap):List (Addr×Obj):=fp.filterMap fun b=>(h.get? b).map fun o=>(b,o)
theorem bQ {fp:List Addr} {h:Heap} {b:Addr} {o:Obj} (hb:b∈fp) (e:h.get? b=some o):(b,o)∈dm fp h:=List.mem_filterMap.mpr ⟨b,hb,by rw [e];rfl⟩
theorem ik {fp:List Addr} {h:Heap} {p:Addr×Obj} (hp:p∈dm fp h):p.1∈fp∧h.get? p.1=some p.2:=by
 obtain ⟨b,hb,e⟩:=List.mem_filterMap.mp hp
 cases q:h.get? b with
 |none=>rw [q] at e;cases e
 |some o=>
  rw [q] at e
  have e':(b,o)=p:=Option.some.inj e
  subst e'
  exact ⟨hb,q⟩
theorem Inv.pinned {pins:List (Addr×Obj)} {σ:St} {H:Hp} {s:Shared} {fp:List Addr} (I:Inv X pins σ H s) (hf: ∀b∈fp,dC X pins H b) (ho: ∀b∈fp,∃o,s.heap.get? b=some o∧∀v,o.data≠ .cell v):Inv X (pins++dm fp s.heap) σ H s:=
 I.c7 fun p hp=>(List.mem_append.mp hp).elim (fun z=>I.pin p (List.mem_append_right _ z)) fun z=>by
  obtain ⟨hb,e⟩:=ik z
  obtain ⟨f0,f1,f2,_⟩:=hf p.1 hb
  obtain ⟨o,e',d⟩:=ho p.1 hb
  rw [e] at e';cases e'
  exact ⟨e,f0,f1,f2,d⟩
theorem Inv.unpinned {pins pl:List (Addr×Obj)} {σ:St} {H:Hp} {s:Shared} (I:Inv X (pins++pl) σ H s):Inv X pins σ H s:=I.c7 fun p hp=>I.pin p (List.mem_append_right _ (List.mem_append_left _ hp))
theorem dk {iter:Expr} {body:List Stmt} {wi:TI} {g:TG} {tb:TS} {pos:Pos} (hp:PassesOwn (model X.prog X.w) X.A X.env X.xe) (hc:X.calm=true) (hi:PI X tg iter wi) (hg:PG X tg g) (hb:fx X body tb)
  (hs: ∀x,foldedSetIterable iter X.env x=pure x:=by intro _;rfl):PS X (.For tg iter body [] pos) (iQ wi g tb):=by
 intro pins s σ H D I h
 refine wpAny_For (thn (hi pins s σ H _ I h) fun v s1 h1=>thn h1 fun itv s2 h2=>?_) hs
 obtain ⟨it,fp,tn,J,H2,e,I2,T,st2,f2,W,⟨m0,w0⟩,turn⟩:=h2
 subst e

 have stat: ∀{H':Hp},(∀b∈fp,H' b=none)→∀b∈fp,dC X pins H' b:=fun hn b hb=>⟨hn b hb,(f2 b hb).2⟩
 refine codeAny_forLoop_any (fun n s'=> ∃i σ' H',Inv X pins σ' H' s'∧tn i s'.heap∧(∀b∈fp,H' b=none)∧W i n σ' H') ?_ m0 ⟨0,σ,H2,I2,st2,fun b hb=>(f2 b hb).1,w0⟩
 rintro n s3 ⟨i,σ3,H3,I3,st3,fr3,w3⟩
 rcases turn i n σ3 H3 w3 with ⟨stop,qn⟩|⟨go,N,hN,step⟩
 ·
  refine wpAny_passesOwn hp (thn (T.done X rfl rfl rfl hc i pins s3 σ3 H3 X.xe I3 (stat fr3) st3 stop) fun r s4 ⟨hr,I4⟩=>?_)
  subst hr
  exact wpAny_execs_nil ⟨σ3,H3,I4,qn⟩
 ·
  refine wpAny_passesOwn hp (thn (T.item X rfl rfl rfl hc i pins s3 σ3 H3 X.xe I3 (stat fr3) st3 go) fun r s4 ⟨u,hr,h4⟩=>?_)
  subst hr
  refine wpAny_passesOwn hp (thn h4 fun _ s5 ⟨x,H5,I5,r5,y5,st5,fr5⟩=>?_)
  have I5':=I5.pinned (stat fr5) (T.obj _ _ st5)
  refine wpAny_passesOwn hp (thn (hg _ s5 σ3 H5 x u _ I5' r5 (step x H5 y5)) fun _ s6 ⟨σ6,H6,I6,q6⟩=>?_)
  refine wpAny_passesOwn hp (thn (hb _ s6 σ6 H6 _ I6 q6) fun f s7 q7=>?_)
  have again: ∀{σ7:St} {H7:Hp},Inv X (pins++dm fp s5.heap) σ7 H7 s7→N σ7 H7→∃m,m<n∧∃i σ' H',Inv X pins σ' H' s7∧tn i s7.heap∧(∀b∈fp,H' b=none)∧W i m σ' H':=fun {σ7 H7} I7 n7=>by
   obtain ⟨m',hm,w7⟩:=hN σ7 H7 n7
   refine ⟨m',hm,i+1,σ7,H7,I7.unpinned,T.keep _ _ _ st5 fun b hb o e=>(I7.pin (b,o) (List.mem_append_right _ (List.mem_append_right _ (bQ hb e)))).1,fun b hb=>?_,w7⟩
   obtain ⟨o,e,d⟩:=T.obj _ _ st5 b hb
   exact (I7.pin (b,o) (List.mem_append_right _ (List.mem_append_right _ (bQ hb e)))).2.1
  cases f with
  |next=>obtain ⟨σ7,H7,I7,n7⟩:=q7;exact again I7 n7
  |cont=>obtain ⟨σ7,H7,I7,n7⟩:=q7;exact again I7 n7
  |brk=>obtain ⟨σ7,H7,I7,q7⟩:=q7;exact ⟨σ7,H7,I7.unpinned,q7⟩
  |ret v=>obtain ⟨x7,σ7,H7,I7,r7,q7⟩:=q7;exact ⟨x7,σ7,H7,I7.unpinned,r7,q7⟩
end
theorem ju {K:PySem.W.Frag} {a:Addr} {xs:List V} {g:TG} {tb:TS} {D:Ends} {σ:St} {H:Hp} (Pv:Nat→St→Hp→Prop) (h0:Pv 0 σ H) (hl: ∀i σ H,i≤xs.length→Pv i σ H→aF K H a xs)
  (hs: ∀i x σ H,xs[i]?=some x→Pv i σ H→g x σ H fun σ2 H2=>tb {D with nx:=Pv (i+1),ct:=Pv (i+1),bk:=D.nx} σ2 H2) (hd: ∀σ H,Pv xs.length σ H→D.nx σ H):
  ∃W:Nat→Nat→St→Hp→Prop,(∃m,W 0 m σ H)∧∀i m σ H,W i m σ H→
   ((om K a).stop i H∧D.nx σ H)∨((om K a).go i H∧∃N:St→Hp→Prop,(∀σ' H',N σ' H'→∃m',m'<m∧W (i+1) m' σ' H')∧∀x H',(om K a).yld i H x H'→g x σ H' fun σ2 H2=>tb {D with nx:=N,ct:=N,bk:=D.nx} σ2 H2):=by
 refine ⟨fun i m σ H=>m=xs.length - i∧i≤xs.length∧Pv i σ H,⟨xs.length,by simp,Nat.zero_le _,h0⟩,?_⟩
 rintro i m σ H ⟨rfl,hi,p⟩
 have q:=hl i σ H hi p
 by_cases hlt:i<xs.length
 ·
  refine .inr ⟨⟨xs,xs[i],q,by simp [hlt]⟩,Pv (i+1),fun σ' H' p'=>⟨xs.length - (i+1),by omega,rfl,hlt,p'⟩,fun x H' y=>?_⟩
  obtain ⟨e,y⟩:=y
  subst e
  exact hs i x σ _ (y xs q) p
 ·
  have e:i=xs.length:=by omega
  subst e
  exact .inl ⟨⟨xs,q,Nat.le_refl _⟩,hd σ H p⟩
theorem iE {lo:Int} {n:Nat} {g:TG} {tb:TS} {D:Ends} {σ:St} {H:Hp} (Pv:Nat→St→Hp→Prop) (h0:Pv 0 σ H)
  (hs: ∀i σ H,i<n→Pv i σ H→g (.int (lo+i)) σ H fun σ2 H2=>tb {D with nx:=Pv (i+1),ct:=Pv (i+1),bk:=D.nx} σ2 H2) (hd: ∀σ H,Pv n σ H→D.nx σ H):
  ∃W:Nat→Nat→St→Hp→Prop,(∃m,W 0 m σ H)∧∀i m σ H,W i m σ H→
   ((iL lo n).stop i H∧D.nx σ H)∨((iL lo n).go i H∧∃N:St→Hp→Prop,(∀σ' H',N σ' H'→∃m',m'<m∧W (i+1) m' σ' H')∧∀x H',(iL lo n).yld i H x H'→g x σ H' fun σ2 H2=>tb {D with nx:=N,ct:=N,bk:=D.nx} σ2 H2):=by
 refine ⟨fun i m σ H=>m=n - i∧i≤n∧Pv i σ H,⟨n,by simp,Nat.zero_le _,h0⟩,?_⟩
 rintro i m σ H ⟨rfl,hi,p⟩
 by_cases hlt:i<n
 ·
  refine .inr ⟨hlt,Pv (i+1),fun σ' H' p'=>⟨n - (i+1),by omega,rfl,hlt,p'⟩,fun x H' y=>?_⟩
  obtain ⟨e,y⟩:=y
  subst e y
  exact hs i σ _ hlt p
 ·
  have e:i=n:=by omega
  subst e
  exact .inl ⟨Nat.le_refl _,hd σ H p⟩
noncomputable abbrev R2:=V→V→Hp→VK→Prop
def cf (X:Cx) (f:Value→Value→Sem Value) (r:R2):Prop:=
 ∀(pins:List (Addr×Obj)) (s:Shared) (σ:St) (H:Hp) (x y:V) (v u:Value) (Q:VK),Inv X pins σ H s→RelV x v→RelV y u→r x y H Q→
  wpAny (model X.prog X.w) X.A (f v u) (EP X pins σ Q) X.xe s
def aK (X:Cx) (f:Value) (r:List V→Hp→VK→Prop):Prop:=
 ∀(pins:List (Addr×Obj)) (s:Shared) (σ:St) (H:Hp) (xs:List V) (us:List Value) (Q:VK),Inv X pins σ H s→Vals xs us→r xs H Q→
  wpAny (model X.prog X.w) X.A (call f us) (EP X pins σ Q) X.xe s
def m8 (r:R2) (ta tb:TE):TE:=fun σ H Q=>ta σ H fun x H1=>tb σ H1 fun y H2=>r x y H2 Q
def o8 (r:V→Hp→VK→Prop) (ta:TE):TE:=fun σ H Q=>ta σ H fun x H1=>r x H1 Q
def rI (C:Int→Int→Prop) (g:Int→Int→V):R2:=fun x y H Q=> ∃i j,x = .int i∧y = .int j∧C i j∧Q (g i j) H
def lS (g:Int→Int→V):R2:=fun x y H Q=> ∃i j,x = .int i∧y = .int j∧Q (g i j) H
def rU (g:Int→V):V→Hp→VK→Prop:=fun x H Q=> ∃i,x = .int i∧Q (g i) H
section
variable {X:Cx} {a b c:Expr} {ta tb tc:TE} {pos:Pos}
theorem mV (ha:PE X a ta) (hb:PE X b tb) {pins:List (Addr×Obj)} {s:Shared} {σ:St} {H:Hp} {R:V→V→Hp→Prop} (I:Inv X pins σ H s)
  (h:ta σ H fun x H1=>tb σ H1 fun y H2=>R x y H2) {Q:Value→Shared→Prop} {f:Value→Value→Sem Value}
  (hf: ∀v u s2 x y H2,Inv X pins σ H2 s2→RelV x v→RelV y u→R x y H2→wpAny (model X.prog X.w) X.A (f v u) Q X.xe s2):
  wpAny (model X.prog X.w) X.A (eval a X.env) (fun v s₁=>wpAny (model X.prog X.w) X.A (eval b X.env) (fun u s₂=>wpAny (model X.prog X.w) X.A (f v u) Q X.xe s₂) X.xe s₁) X.xe s:=by
 refine thn (ha pins s σ H _ I h) fun v s1 ⟨x,H1,I1,r1,q1⟩=>?_
 refine thn (hb pins s1 σ H1 _ I1 q1) fun u s2 ⟨y,H2,I2,r2,q2⟩=>?_
 exact hf v u s2 x y H2 I2 r1 r2 q2
theorem ax {op:Operator} {r:R2} (ho:cf X (binaryOp op) r) (ha:PE X a ta) (hb:PE X b tb):PE X (.BinOp a op b pos) (m8 r ta tb):=by
 intro pins s σ H Q I h
 exact wpAny_BinOp (mV ha hb I h fun v u s2 x y H2 I2 rx ry q=>ho pins s2 σ H2 x y v u Q I2 rx ry q)
theorem mZ {f:Value→Value→Sem Value} {C:Int→Int→Prop} {g:Int→Int→Int}
  (rule: ∀(i j:Int) (t u:Tok) (s:Shared) (Q:Value→Shared→Prop) (E:Value→Shared→Prop),C i j→Q (.int (g i j) s.toks) {s with toks:=s.toks+1}→wpAny (model X.prog X.w) X.A (f (.int i t) (.int j u)) Q E s):
  cf X f (rI C fun i j=> .int (g i j)):=by
 intro pins s σ H x y v u Q I rx ry h
 obtain ⟨i,j,rfl,rfl,hc,q⟩:=h
 obtain ⟨t,rfl⟩:=rx
 obtain ⟨t',rfl⟩:=ry
 exact rule i j t t' s _ _ hc ⟨.int (g i j),H,I.tok _,⟨_,rfl⟩,q⟩
theorem oJ {f:Value→Value→Sem Value} {g:Int→Int→Int}
  (rule: ∀(i j:Int) (t u:Tok) (s:Shared) (Q:Value→Shared→Prop) (E:Value→Shared→Prop),Q (.int (g i j) s.toks) {s with toks:=s.toks+1}→wpAny (model X.prog X.w) X.A (f (.int i t) (.int j u)) Q E s):
  cf X f (lS fun i j=> .int (g i j)):=by
 intro pins s σ H x y v u Q I rx ry h
 obtain ⟨i,j,rfl,rfl,q⟩:=h
 obtain ⟨t,rfl⟩:=rx
 obtain ⟨t',rfl⟩:=ry
 exact rule i j t t' s _ _ ⟨.int (g i j),H,I.tok _,⟨_,rfl⟩,q⟩
theorem md {f:Value→Value→Sem Value} {g:Int→Int→Bool}
  (rule: ∀(i j:Int) (t u:Tok) (s:Shared) (Q:Value→Shared→Prop) (E:Value→Shared→Prop),Q (.bool (g i j)) s→wpAny (model X.prog X.w) X.A (f (.int i t) (.int j u)) Q E s):
  cf X f (lS fun i j=> .bl (g i j)):=by
 intro pins s σ H x y v u Q I rx ry h
 obtain ⟨i,j,rfl,rfl,q⟩:=h
 obtain ⟨t,rfl⟩:=rx
 obtain ⟨t',rfl⟩:=ry
 exact rule i j t t' s _ _ ⟨.bl (g i j),H,I,rfl,q⟩
def k6 (i j:Int):Prop:=0<j∧j<1073741824
def kZ (i j:Int):Prop:=(-(2 ^ 64)<i∧i<2 ^ 64)∨(-(2 ^ 64)<j∧j<2 ^ 64)
theorem kZ.ok {i j:Int} (h:kZ i j):IntMulOk i j:=by
 rcases h with ⟨h1,h2⟩|⟨h1,h2⟩
 ·exact .of_left (intBits_le_64 h1 h2)
 ·exact .of_right (intBits_le_64 h1 h2)
theorem fy (k:Nat):(0:Int)≤2 ^ k:=by
 rw [two_pow_cast]
 exact Int.natCast_nonneg _
theorem ma:cf X (binaryOp .Add) (lS fun i j=> .int (i+j)):=oJ fun _ _ _ _ _ _ _ q=>add_int q
theorem er:cf X (binaryOp .Mult) (rI kZ fun i j=> .int (i*j)):=mZ fun _ _ _ _ _ _ _ hc q=>mul_int q hc.ok
theorem et:cf X (binaryOp .FloorDiv) (rI k6 fun i j=> .int (i / j)):=mZ fun i j _ _ _ _ _ hc q=>by
 have h1:(0:Int)<j:=hc.1
 have h2:j<1073741824:=hc.2
 exact floordiv_int (by omega) (by rw [Int.fdiv_eq_ediv_of_nonneg i (by omega)];exact q) (.inl (PyProof.noPylong_small (by omega)))
theorem aX:cf X (binaryOp .Mod) (rI (fun _ j=>0<j) fun i j=> .int (i % j)):=mZ fun i j _ _ _ _ _ hc q=>by
 have h1:(0:Int)<j:=hc
 exact mod_int' (by omega) (by rw [Int.fmod_eq_emod_of_nonneg i (by omega)];exact q)
theorem ji:cf X (binaryOp .RShift) (rI (fun _ j=>0≤j) fun i j=> .int (i / 2 ^ j.toNat)):=mZ fun i j _ _ _ _ _ hc q=>
 rshift_int hc (by rw [Int.fdiv_eq_ediv_of_nonneg i (fy _)];exact q)
end
noncomputable def scal:V→V→Bool
 | .non,.non=>true | .non,.int _=>true | .int _,.non=>true | .non,.bl _=>true | .bl _,.non=>true | .non,.str _=>true | .str _,.non=>true
 | .int _,.int _=>true | .bl _,.bl _=>true | .str _,.str _=>true | .byt _,.byt _=>true
 | .int _,.str _=>true | .str _,.int _=>true | .bl _,.str _=>true | .str _,.bl _=>true
 |_,_=>false
def lU:R2:=fun x y H Q=>scal x y=true∧Q (.bl (decide (x=y))) H
def lM:R2:=fun x y H Q=>scal x y=true∧Q (.bl (!decide (x=y))) H
theorem gQ {i j:Int}:decide (V.int i=V.int j)=(i == j):=by
 rw [Bool.eq_iff_iff]
 simp
theorem jx {i j:Bool}:decide (V.bl i=V.bl j)=(i == j):=by
 rw [Bool.eq_iff_iff]
 simp
theorem gO {i j:Str}:decide (V.str i=V.str j)=(i == j):=by
 rw [Bool.eq_iff_iff]
 simp
theorem gR {i j:Array UInt8}:decide (V.byt i=V.byt j)=(i.toList == j.toList):=by
 rw [Bool.eq_iff_iff]
 cases i
 cases j
 simp
section
variable {X:Cx} {a b c:Expr} {ta tb tc:TE} {pos:Pos}
theorem au {pins:List (Addr×Obj)} {σ:St} {H:Hp} {s:Shared} {Q:VK} {k k':Bool} (I:Inv X pins σ H s) (q:Q (.bl k) H) (e:k=k'):EP X pins σ Q (.bool k') s:=by
 subst e
 exact ⟨.bl k,H,I,rfl,q⟩
theorem nT:cf X (compareOp .Eq) lU:=by
 intro pins s σ H x y v u Q I rx ry h
 obtain ⟨hs,q⟩:=h
 cases x with
 |non=>
  cases rx
  cases y with
  |non=>cases ry;exact PySem.EqNone.eq_none_none (au I q (by simp))
  |bl j=>cases ry;exact PySem.EqNone.eq_none_bool (au I q (by simp))
  |int j=>obtain ⟨t',rfl⟩:=ry;exact PySem.EqNone.eq_none_int (au I q (by simp))
  |str j=>obtain ⟨t',rfl⟩:=ry;exact PySem.EqNone.eq_none_str (au I q (by simp))
  |_=>exact absurd (show false=true from hs) Bool.false_ne_true
 |bl i=>
  cases rx
  cases y with
  |non=>cases ry;exact PySem.EqNone.eq_bool_none (au I q (by simp))
  |bl j=>cases ry;exact eq_bool (au I q jx)
  |str j=>obtain ⟨t',rfl⟩:=ry;exact PySem.EqMixed.eq_bool_str (au I q (by simp))
  |_=>exact absurd (show false=true from hs) Bool.false_ne_true
 |int i=>
  obtain ⟨t,rfl⟩:=rx
  cases y with
  |non=>cases ry;exact PySem.EqNone.eq_int_none (au I q (by simp))
  |int j=>obtain ⟨t',rfl⟩:=ry;exact eq_int (au I q gQ)
  |str j=>obtain ⟨t',rfl⟩:=ry;exact PySem.EqMixed.eq_int_str (au I q (by simp))
  |_=>exact absurd (show false=true from hs) Bool.false_ne_true
 |str i=>
  obtain ⟨t,rfl⟩:=rx
  cases y with
  |non=>cases ry;exact PySem.EqNone.eq_str_none (au I q (by simp))
  |bl j=>cases ry;exact PySem.EqMixed.eq_str_bool (au I q (by simp))
  |int j=>obtain ⟨t',rfl⟩:=ry;exact PySem.EqMixed.eq_str_int (au I q (by simp))
  |str j=>obtain ⟨t',rfl⟩:=ry;exact eq_str (au I q gO)
  |_=>exact absurd (show false=true from hs) Bool.false_ne_true
 |byt i=>
  obtain ⟨t,rfl⟩:=rx
  cases y with
  |byt j=>obtain ⟨t',rfl⟩:=ry;exact PySem.W.eq_bytes (au I q gR)
  |_=>exact absurd (show false=true from hs) Bool.false_ne_true
 |_=>cases y<;>exact absurd (show false=true from hs) Bool.false_ne_true
theorem nP:cf X (compareOp .NotEq) lM:=by
 intro pins s σ H x y v u Q I rx ry h
 obtain ⟨hs,q⟩:=h
 cases x with
 |non=>
  cases rx
  cases y with
  |non=>cases ry;exact PySem.EqNone.ne_none_none (au I q (by simp))
  |bl j=>cases ry;exact PySem.EqNone.ne_none_bool (au I q (by simp))
  |int j=>obtain ⟨t',rfl⟩:=ry;exact PySem.EqNone.ne_none_int (au I q (by simp))
  |str j=>obtain ⟨t',rfl⟩:=ry;exact PySem.EqNone.ne_none_str (au I q (by simp))
  |_=>exact absurd (show false=true from hs) Bool.false_ne_true
 |bl i=>
  cases rx
  cases y with
  |non=>cases ry;exact PySem.EqNone.ne_bool_none (au I q (by simp))
  |bl j=>cases ry;exact ne_bool (au I q (congrArg not jx))
  |str j=>obtain ⟨t',rfl⟩:=ry;exact PySem.EqMixed.ne_bool_str (au I q (by simp))
  |_=>exact absurd (show false=true from hs) Bool.false_ne_true
 |int i=>
  obtain ⟨t,rfl⟩:=rx
  cases y with
  |non=>cases ry;exact PySem.EqNone.ne_int_none (au I q (by simp))
  |int j=>obtain ⟨t',rfl⟩:=ry;exact ne_int (au I q (congrArg not gQ))
  |str j=>obtain ⟨t',rfl⟩:=ry;exact PySem.EqMixed.ne_int_str (au I q (by simp))
  |_=>exact absurd (show false=true from hs) Bool.false_ne_true
 |str i=>
  obtain ⟨t,rfl⟩:=rx
  cases y with
  |non=>cases ry;exact PySem.EqNone.ne_str_none (au I q (by simp))
  |bl j=>cases ry;exact PySem.EqMixed.ne_str_bool (au I q (by simp))
  |int j=>obtain ⟨t',rfl⟩:=ry;exact PySem.EqMixed.ne_str_int (au I q (by simp))
  |str j=>obtain ⟨t',rfl⟩:=ry;exact ne_str (au I q (congrArg not gO))
  |_=>exact absurd (show false=true from hs) Bool.false_ne_true
 |byt i=>
  obtain ⟨t,rfl⟩:=rx
  cases y with
  |byt j=>obtain ⟨t',rfl⟩:=ry;exact PySem.W.ne_bytes (au I q (congrArg not gR))
  |_=>exact absurd (show false=true from hs) Bool.false_ne_true
 |_=>cases y<;>exact absurd (show false=true from hs) Bool.false_ne_true
theorem nQ:cf X (compareOp .Lt) (lS fun i j=> .bl (decide (i<j))):=md fun _ _ _ _ _ _ _ q=>lt_int q
theorem nR:cf X (compareOp .Gt) (lS fun i j=> .bl (decide (j<i))):=md fun _ _ _ _ _ _ _ q=>gt_int q
theorem nS:cf X (compareOp .GtE) (lS fun i j=> .bl (decide (j≤i))):=md fun _ _ _ _ _ _ _ q=>ge_int q
theorem cf.or {f:Value→Value→Sem Value} {r r':R2} (h:cf X f r) (h':cf X f r'):cf X f (fun x y H Q=>r x y H Q∨r' x y H Q):=by
 intro pins s σ H x y v u Q I rx ry q
 rcases q with q|q
 ·exact h pins s σ H x y v u Q I rx ry q
 ·exact h' pins s σ H x y v u Q I rx ry q
theorem nomark (b:Expr) {op:CmpOp} (h:op≠ .In:=by decide) (h2:op≠ .NotIn:=by decide):behindInMarks op b=false:=by
 have e1:(op == CmpOp.In)=false:=by cases op<;>first|rfl|exact absurd rfl h
 have e2:(op == CmpOp.NotIn)=false:=by cases op<;>first|rfl|exact absurd rfl h2
 cases b<;>simp [behindInMarks,e1,e2]
theorem kl {op:CmpOp} {r:R2} (ho:cf X (compareOp op) r) (ha:PE X a ta) (hb:PE X b tb) (hm:behindInMarks op b=false):PE X (.Compare a [op] [b] pos) (m8 r ta tb):=by
 intro pins s σ H Q I h
 exact wpAny_Compare1 (mV ha hb I h fun v u s2 x y H2 I2 rx ry q=>ho pins s2 σ H2 x y v u Q I2 rx ry q) hm
def k7 (t:TE):TT:=fun σ H Q=>t σ H fun x H'=> ∃k,x = .bl k∧Q k H'
theorem bo {op:CmpOp} {r:R2} (ho:cf X (compareOp op) r) (ha:PE X a ta) (hb:PE X b tb) (hm:behindInMarks op b=false):PT X (.Compare a [op] [b] pos) (k7 (m8 r ta tb)):=by
 intro pins s σ H Q I h
 refine wpAny_isTrue_Compare1 (thn (ha pins s σ H _ I h) fun v s1 ⟨x,H1,I1,r1,q1⟩=>thn (hb pins s1 σ H1 _ I1 q1) fun u s2 ⟨y,H2,I2,r2,q2⟩=>
  thn (ho pins s2 σ H2 x y v u _ I2 r1 r2 q2) fun c s3 ⟨z,H3,I3,r3,k,e,q3⟩=>?_) hm
 subst e
 cases r3
 exact wpAny_truthy_bool ⟨H3,I3,q3⟩
def lE (r r':R2) (ta tb tc:TE):TE:=fun σ H Q=>ta σ H fun x H1=>tb σ H1 fun y H2=>r x y H2 fun z H3=> ∃k,z = .bl k∧
 (if k=true then tc σ H3 fun w' H4=>r' y w' H4 Q else Q (.bl false) H3)
theorem dw:(sizeLine:Nat)<2 ^ 63:=by rw [sizeLine_eq];decide
theorem fU:cf X (binaryOp .Add) (fun x y H Q=> ∃i j,x = .str i∧y = .str j∧i.length+j.length≤sizeLine∧Q (.str (i++j)) H):=by
 intro pins s σ H x y v u Q I rx ry h
 obtain ⟨i,j,rfl,rfl,hz,q⟩:=h
 obtain ⟨t,rfl⟩:=rx
 obtain ⟨t',rfl⟩:=ry
 exact add_str (fun t' tk=>⟨.str (i++j),H,I.tok _,⟨_,rfl⟩,q⟩) hz
theorem vals1 {x:V} {us:List Value} (r:Vals [x] us): ∃u,us= [u]∧RelV x u:=by
 cases r with
 |cons r1 r2=>cases r2;exact ⟨_,rfl,r1⟩
theorem vals2 {x y:V} {us:List Value} (r:Vals [x,y] us): ∃u w',us= [u,w']∧RelV x u∧RelV y w':=by
 cases r with
 |cons r1 r2=>
  cases r2 with
  |cons r3 r4=>cases r4;exact ⟨_,_,rfl,r1,r3⟩
end
structure mX (h:Heap) (x dx C:Addr) (mA:Str→Option Value):Prop where
 obj:h.get? x=some (PySem.W.instObj C dx)
 ns:h.Ns1 dx mA
 ne:dx≠x
theorem ir {h:Heap} {dx:Addr} {mA:Str→Option Value} (n:h.Ns1 dx mA): ∃od,h.get? dx=some od∧∀name,PySem.W.lookIn name od=some (mA name):=by
 obtain ⟨o,es,ep,ho,hd,hk,_,hm⟩:=n
 refine ⟨o,ho,fun name=>?_⟩
 have e:=hm name
 unfold nsFind findBy at e
 rw [←Array.find?_toList] at e
 unfold PySem.W.lookIn
 rw [hd]
 dsimp only
 split
 ·
  rename_i y q
  rw [q] at e
  exact congrArg some e
 ·
  rename_i q
  rw [q] at e
  have a:es.toList.any (·.refKey)=false:=by
   rw [List.any_eq_false]
   intro y hy
   obtain ⟨z,t,hkey⟩:=hk y (Array.mem_toList_iff.mp hy)
   simp [DictEntry.refKey,hkey]
  have a': ¬es.toList.any (·.refKey)=true:=by rw [a];exact Bool.false_ne_true
  rw [if_neg a']
  exact congrArg some e
theorem mX.look {h:Heap} {x dx C:Addr} {mA:Str→Option Value} (I:mX h x dx C mA): ∃od,PySem.W.InstAt h x (PySem.W.instObj C dx) C (some od)∧∀name,PySem.W.lookIn name od=some (mA name):=
 let ⟨od,ho,hl⟩:=ir I.ns
 ⟨od,⟨I.obj,rfl,rfl,ho⟩,hl⟩
section
variable {prog:Program} {w:World} {A:Around} {E:Value→Shared→Prop} {s:Shared} {K:PySem.W.Frag} {x dx C f:Addr} {mA:Str→Option Value} {name:Str} {v:Value}
end
section
variable {P:Program} {w:World} {H H':Hp} {h h':Heap} {a C dx:Addr} {fs fs':List (Str×V)}
theorem kJ (hok:c6 P w H h) (e:H a=some (.ins C dx fs)): ∃mA,mX h a dx C mA∧(∀f,mW (fs.lookup f) (mA f))∧PySem.Within mA (fs.map (·.1))∧fs.length≤1000∧H dx=some (.own a):=by
 obtain ⟨d,z,ne,ob,mA,n,r,q⟩:=(show aL P w H h a (.ins C dx fs) from hok a _ e)
 exact ⟨mA,⟨ob,n,ne⟩,r,q,z,d⟩
end
structure oW (K:PySem.W.Frag) (C:Addr):Prop where
 pg:PySem.W.plainGet K C Str.empty=true
 hd:PySem.W.hasDictIn K C=true
 po:PySem.W.plainOver K C=true
 sa:PySem.W.findIn K (.ref C) "__setattr__" = some (some (.builtin "object.__setattr__"))
theorem oW.get {K:PySem.W.Frag} {C:Addr} (c:oW K C) (f:Str):PySem.W.plainGet K C f=true:=c.pg
section
variable {X:Cx} {pins:List (Addr×Obj)} {σ:St} {H:Hp} {s:Shared} {a C dx:Addr} {fs:List (Str×V)} {f:Str} {v:V} {A:Around} {E:Value→Shared→Prop}
end
section
variable {X:Cx} {o e value:Expr} {f:Str} {pos pos' tpos:Pos} {ta tv:TE}
end
section
variable {X:Cx} {pins:List (Addr×Obj)} {σ:St} {H:Hp} {s:Shared} {A:Around} {E:Value→Shared→Prop} {Q:Value→Shared→Prop} {c:Value} {b:Bool}
inductive cO (K:PySem.W.Frag) (H:Hp):V→Value→Prop where
 |non:cO K H .non (.type "NoneType")
 |bl (x:Bool):cO K H (.bl x) (.type "bool")
 |int (i:Int):cO K H (.int i) (.type "int")
 |str (x:Str):cO K H (.str x) (.type "str")
 |flt (x:UInt64):cO K H (.flt x) (.type "float")
 |lst {a:Addr} {xs:List V} (e:H a=some (.lst xs)):cO K H (.ref a) (.type "list")
 |frz {a:Addr} {o:Obj} {xs:List V} (e:H a=some (.frz o (.lst xs))):cO K H (.ref a) (.type "list")
 |tup {a:Addr} {xs:List V} (e:H a=some (.tup xs)):cO K H (.ref a) (.type "tuple")
 |dK {a:Addr} {kvs:List (Key×V)} (e:H a=some (.dK kvs)):cO K H (.ref a) (.type "dict")
 |dT {a:Addr} {kvs:List (List Key×V)} (e:H a=some (.dT kvs)):cO K H (.ref a) (.type "dict")
 |
   ins {a C dx:Addr} {fs:List (Str×V)} (e:H a=some (.ins C dx fs)) (cl:oW K C) (ha:PySem.W.findIn K (.ref C) "__class__" = some (some (.builtin "object.__class__")))
   (hn:PySem.W.specialIn K (.builtin "object.__class__") "__get__" = some (some (.builtin "getset_descriptor.__get__"))) (htk:PySem.W.takesIn K (.builtin "object.__class__")=some true)
   (hm:PySem.W.mroIn K C (.type "object")=some true):cO K H (.ref a) (.ref C)
theorem iw {x:V} {u t:Value} (I:Inv X pins σ H s) (rx:RelV x u) (ty:cO X.K H x t) (e:PySem.W.kitOne X.K t c=some b) (h: ∀tk,Q (.bool b) {s with toks:=tk}):
  wpAny (model X.prog X.w) A (call (.builtin "isinstance") [u,c]) Q E s:=by
 cases ty with
 |non=>cases (show u=Value.none from rx);exact PySem.W.kia_one PySem.W.kitx_none I.eS True.intro e (fun z=>nomatch z) h
 |bl y=>cases (show u=Value.bool y from rx);exact PySem.W.kia_one PySem.W.kitx_bool I.eS True.intro e (fun z=>nomatch z) h
 |int i=>obtain ⟨t,q⟩:=(show∃t,u=Value.int i t from rx);cases q;exact PySem.W.kia_one PySem.W.kitx_int I.eS True.intro e (fun z=>nomatch z) h
 |str y=>obtain ⟨t,q⟩:=(show∃t,u=Value.str y t from rx);cases q;exact PySem.W.kia_one PySem.W.kitx_str I.eS True.intro e (fun z=>nomatch z) h
 |flt y=>obtain ⟨t,q⟩:=(show∃t,u=Value.float y t from rx);cases q;exact PySem.W.kia_one PySem.W.kitx_float I.eS True.intro e (fun z=>nomatch z) h
 | @lst a xs ea=>
  cases (show u=Value.ref a from rx)
  obtain ⟨_,_,n,_,h1⟩:=(show aL X.prog X.w H s.heap a (.lst xs) from I.hok a _ ea)
  exact PySem.W.kia_one PySem.W.kitx_list I.eS ⟨_,h1,rfl⟩ e (fun z=>nomatch z) h
 | @frz a ob xs ea=>
  cases (show u=Value.ref a from rx)
  obtain ⟨_,_,_,n,_,h1⟩:=(show aL X.prog X.w H s.heap a (.frz ob (.lst xs)) from I.hok a _ ea)
  exact PySem.W.kia_one PySem.W.kitx_list I.eS ⟨_,h1,rfl⟩ e (fun z=>nomatch z) h
 | @tup a xs ea=>
  cases (show u=Value.ref a from rx)
  obtain ⟨_,_,_,p⟩:=(show aL X.prog X.w H s.heap a (.tup xs) from I.hok a _ ea)
  obtain ⟨o,h1,h2,_⟩:=p
  exact PySem.W.kia_one PySem.W.kitx_tuple I.eS ⟨o,h1,h2⟩ e (fun z=>nomatch z) h
 | @dK a kvs ea=>
  cases (show u=Value.ref a from rx)
  obtain ⟨_,_,vs,_,p⟩:=(show aL X.prog X.w H s.heap a (.dK kvs) from I.hok a _ ea)
  obtain ⟨o,es,ep,h1,h2,_⟩:=p
  exact PySem.W.kia_one PySem.W.kitx_dict I.eS ⟨o,h1,h2.1⟩ e (fun z=>nomatch z) h
 | @dT a kvs ea=>
  cases (show u=Value.ref a from rx)
  obtain ⟨_,_,xs,_,o,es,ep,h1,h2,_⟩:=(show aL X.prog X.w H s.heap a (.dT kvs) from I.hok a _ ea)
  exact PySem.W.kia_one PySem.W.kitx_dict I.eS ⟨o,h1,h2.1⟩ e (fun z=>nomatch z) h
 | @ins a C dx fs ea cl ha hn htk hm=>
  cases (show u=Value.ref a from rx)
  obtain ⟨mA,O,_⟩:=kJ I.hok ea
  obtain ⟨od,J,_⟩:=O.look
  exact PySem.W.kia_one (PySem.W.kitx_own (cl.get _) cl.hd ha hn htk hm) I.eS J e (fun z=>nomatch z) h
end
structure bb (k:Nat) (A:Around):Prop where
 hd:A.handled=none
 dp:A.depth+3*k+5<recursionLimit
 un:A.units+16*k+200<cLine
theorem bb.mono {j k:Nat} {A:Around} (r:bb k A) (h:j≤k):bb j A:=⟨r.hd,by have:=r.dp;omega,by have:=r.un;omega⟩
theorem bb.deeper {k:Nat} {A:Around} (r:bb (k+1) A) (env:Env):bb k (A.deeper env):=
 ⟨r.hd,by have:=r.dp;show A.depth+1+3*k+5<_;omega,by have:=r.un;show A.units+3+16*k+200<_;omega⟩
theorem bb.depth {k:Nat} {A:Around} (r:bb k A):A.depth<recursionLimit:=by have:=r.dp;omega
theorem bb.units {k:Nat} {A:Around} (r:bb k A):A.units+64<cLine:=by have:=r.un;omega
def fB:TA:=fun _ H Q=>Q [] H
def ck (ta:TE) (tr:TA):TA:=fun σ H Q=>ta σ H fun x H1=>tr σ H1 fun xs H2=>Q (x::xs) H2
section
variable {X:Cx} {e:Expr} {es:List Expr} {te:TE} {t:TA} {pos:Pos}
theorem ag:PA X [] fB:=fun _ _ _ _ H Q I h=>Calls.spliced_nil ⟨[],H,I,.nil,h⟩
theorem gA (ha:PE X e te) (hr:PA X es t) (hs:starEach (e::es) X.env=(false,eval e X.env)::starEach es X.env:=by rfl):PA X (e::es) (ck te t):=by
 intro pos pins s σ H Q I h
 rw [hs]
 show wpAny _ _ (spliced ((false,eval e X.env)::backTo pos (starEach es X.env))) _ _ s
 refine Calls.spliced_cons (thn (ha pins s σ H _ I h) fun u s1 ⟨x,H1,I1,r1,q1⟩=>?_)
 exact thn (hr pos pins s1 σ H1 _ I1 q1) fun us s2 ⟨xs,H2,I2,r2,q2⟩=>⟨x::xs,H2,I2,.cons r1 r2,q2⟩
def m4 (t:TA):TE:=fun σ H Q=>t σ H fun xs H1=>xs.length≤sizeLine∧∀p,H1 p=none→Q (.ref p) (upd H1 p (.tup xs))
def m_ (t:TA):TE:=fun σ H Q=>t σ H fun xs H1=>xs.length≤sizeLine∧∀p,H1 p=none→Q (.ref p) (upd H1 p (.lst xs))
theorem dt {x1} (h:PA X es t):PE X (.Tuple es x1 pos) (m4 t):=by
 intro pins s σ H Q I hq
 refine wpAny_Tuple_spliced (thn (h pos pins s σ H _ I hq) fun us s1 ⟨xs,H1,I1,r,z,q⟩=>⟨by rw [←r.length];exact z,?_⟩)
 have hf:H1 s1.heap.objs.size=none:=I1.hok.fresh (Nat.le_refl _)
 refine ⟨.ref s1.heap.objs.size,upd H1 s1.heap.objs.size (.tup xs),I1.laid (t':=s1.toks) (fun b u e=>Heap.get?_push_of_some _ e) (Nat.le_refl _) ?_,rfl,q _ hf⟩
 exact ⟨z,us,r,⟨_,Heap.get?_push_size _ rfl,rfl,_,rfl⟩⟩
theorem du (h:PA X es t):PE X (.List es pos) (m_ t):=by
 intro pins s σ H Q I hq
 refine wpAny_List_spliced (thn (h pos pins s σ H _ I hq) fun us s1 ⟨xs,H1,I1,r,z,q⟩=>⟨by rw [←r.length];exact z,?_⟩)
 have hf:H1 s1.heap.objs.size=none:=I1.hok.fresh (Nat.le_refl _)
 refine ⟨.ref s1.heap.objs.size,upd H1 s1.heap.objs.size (.lst xs),I1.laid (t':=s1.toks) (fun b u e=>Heap.get?_push_of_some _ e) (Nat.le_refl _) ?_,rfl,q _ hf⟩
 exact ⟨z,us,0,r,Heap.get?_push_size _ rfl⟩
end
noncomputable abbrev Sp:=List V→Hp→VK→XK→Prop
noncomputable abbrev cB:=List Env→Hp→Shared→XK→Value→Shared→Prop
structure jM (P:Program) (w:World) (K:PySem.W.Frag) (mg:Str→Option Value) (base:Heap) (A:Around) (outer:List Env) (s:Shared) (H:Hp):Prop where
 frames:A.frames=some outer
 mod:Mod K mg base
 bs: ∀b o,base.get? b=some o→s.heap.get? b=some o∧H b=none
 bsz:base.objs.size≤s.heap.objs.size
 funs:s.heap.FunFrames base outer
 frf: ∀b∈frs outer,H b=none
 hok:c6 P w H s.heap
 bare:AllBare s.gens
def CE (outer:List Env) (P:Program) (w:World) (H:Hp) (s:Shared) (Q:VK) (u:Value) (s':Shared):Prop:=
 ∃v H',s'.os=s.os∧AllBare s'.gens∧Un (frs outer) [] H H' s.heap s'.heap∧c6 P w H' s'.heap∧RelV v u∧Q v H'
def CR (CX:cB) (outer:List Env) (P:Program) (w:World) (H:Hp) (s:Shared) (Q:VK) (E:XK) (r:Result) (s':Shared):Prop:=
 match r with
 | .ok (.ret u)=>CE outer P w H s Q u s'
 | .ok _=>False
 | .error e=>CX outer H s E e s'
structure eR (P:Program) (w:World) (K:PySem.W.Frag) (mg:Str→Option Value) (base:Heap) (CX:cB) (k:Nat) (f:Addr) (fd:FuncData) (ps:List Str) (sp:Sp):Prop where
 len: ∀vs H Q E,sp vs H Q E→vs.length=ps.length
 run: ∀(A:Around) (outer:List Env) (s:Shared) (H:Hp) (args:Args) (us:List Value) (vs:List V) (Q:VK) (E:XK),bb k A→jM P w K mg base A outer s H→BindsTo s fd args (ps.zip us)→Vals vs us→sp vs H Q E→
  codeAny (model P w) A (.call (.ref f) args) (CR CX outer P w H s Q E) s
section
variable {X:Cx} {pins:List (Addr×Obj)} {σ:St} {H:Hp} {s s':Shared}
theorem Inv.n_ (I:Inv X pins σ H s):jM X.prog X.w X.K X.mg X.base X.A X.stack s H:=
 ⟨I.ok.frames,I.ok.mod,I.bs,Nat.le_trans I.ok.bsz I.sz,I.stack,I.gp,I.hok,I.bare⟩
theorem Inv.after {Q:VK} {u:Value} (I:Inv X pins σ H s) (h:CE X.stack X.prog X.w H s Q u s'):EP X pins σ Q u s':=by
 obtain ⟨v,H',os,bare,un,hok,r,q⟩:=h
 obtain ⟨hh,g,d,t,os'⟩:=s'
 obtain rfl:os'=s.os:=os
 exact ⟨v,H',I.call (h':=hh) (g':=g) (d':=d) (t':=t) (ch:=[]) un hok bare (fun b z=>absurd z (by simp)),r,q⟩
end
def dR (sp:Sp) (dvs:List V) (E:XK) (t:TA):TE:=fun σ H Q=>t σ H fun vs H1=>sp (vs++dvs) H1 Q E
def Binds (K:PySem.W.Frag) (fd:FuncData) (ps:List Str) (ds:List Value):Prop:=
 ∀(s:Shared) (us:List Value),K.In s.heap→(us++ds).length=ps.length→BindsTo s fd ⟨us,[]⟩ (ps.zip (us++ds))
theorem Binds.all {K:PySem.W.Frag} {fd:FuncData} {ps:List Str} (h: ∀us:List Value,us.length=ps.length→bindArgs fd ⟨us,[]⟩=pure (ps.zip us)):Binds K fd ps []:=fun s us _ hl=>by
 rw [List.append_nil] at hl⊢
 exact .of_eq (h us hl)
def Passes (CX:cB) (X:Cx) (E:XK):Prop:= ∀(pins:List (Addr×Obj)) (σ:St) (H:Hp) (s:Shared) (e:Value) (s':Shared),Inv X pins σ H s→CX X.stack H s E e s'→X.xe e s'
section
variable {X:Cx} {CX:cB} {k:Nat} {f C:Addr} {fd:FuncData} {ps:List Str} {sp:Sp} {dvs:List V} {ds:List Value} {E:XK} {x m:Str} {p pos apos:Pos} {e o:Expr} {es:List Expr} {ta:TE} {t:TA}
theorem lK {pins:List (Addr×Obj)} {σ:St} {H:Hp} {s:Shared} {Q:VK} {us:List Value} {vs:List V} (F:eR X.prog X.w X.K X.mg X.base CX k f fd ps sp) (hr:bb k X.A) (hb:Binds X.K fd ps ds) (hd:Vals dvs ds) (hx:Passes CX X E)
  (I:Inv X pins σ H s) (r:Vals vs us) (h:sp (vs++dvs) H Q E):wpAny (model X.prog X.w) X.A (call (.ref f) us) (EP X pins σ Q) X.xe s:=by
 have r2:Vals (vs++dvs) (us++ds):=r.append hd
 have hl:(us++ds).length=ps.length:=by rw [←r2.length];exact F.len _ _ _ _ h
 refine wpAny_call (codeAny_mono (F.run X.A X.stack s H ⟨us,[]⟩ (us++ds) (vs++dvs) Q E hr I.n_ (hb s us I.eS hl) r2 h) fun r s' hq=>?_)
 cases r with
 |error e=>exact hx pins σ H s e s' I hq
 |ok fl=>
  cases fl with
  |ret u=>exact I.after hq
  |next=>exact False.elim hq
  |brk=>exact False.elim hq
  |cont=>exact False.elim hq
theorem km (F:eR X.prog X.w X.K X.mg X.base CX k f fd ps sp) (hr:bb k X.A) (hg:Gl X x) (hm:X.mg x=some (.ref f)) (hk:PySem.W.keepIn X.K (.ref f)=true) (hb:Binds X.K fd ps ds) (hd:Vals dvs ds) (hx:Passes CX X E)
  (ha:PA X (e::es) t) (hdb:(x == ("__debug__" : Str))=false:=by decide) (he:starEach (e::es) X.env=(false,eval e X.env)::starEach es X.env:=by rfl) (hpl:(backTo pos (starEach es X.env)).any (·.1)=false:=by rfl):
  PE X (.Call (.Name x p) (e::es) [] pos) (dR sp dvs E t):=by
 intro pins s σ H Q I h
 refine wpAny_Call_Name_kw (ky I hg hm ?_ hdb)
 refine PySem.W.callWith_K (h₀:=X.base) I.ok.mod.kin hk (thn (ha pos pins s σ H _ I h) fun us s1 ⟨vs,H1,I1,r,q⟩=>⟨I1.eS,?_⟩) he hpl
 exact lK F hr hb hd hx I1 r q
end
section
variable {X:Cx} {CX:cB} {k:Nat} {f C:Addr} {fd:FuncData} {ps ks:List Str} {sp:Sp} {E:XK} {x m:Str} {p pos apos kpos:Pos} {e o:Expr} {es:List Expr} {kws:List Keyword} {te ta:TE} {t tk:TA} {nm:Option Str}
variable {g:List Value→List Value→List Value} {gV:List V→List V→List V}
end
structure aG (N P:List Str) (sc:Scope):Prop where
 kind:sc.kind = .function
 co:sc.isCoroutine=false
 gen:sc.isGenerator=false
 nd:N.Nodup
 pre:N.take P.length=P
 par: ∀x∈P,sc.names.lookup x=some .local∨sc.names.lookup x=some .cell
 nofree: ∀y∈sc.names,y.2≠ .free
theorem d0 {kindOf:Str→Option NameKind} {x:Str}: ∀{binds:List (Str×Value)} {m:Str→Option Value},(∀v,(x,v) ∉ binds)→bindL kindOf binds m x=m x
 | [],_,_=>rfl
 |(n,v)::r,m,h=>by
  unfold bindL
  rw [d0 fun w hw=>h w (List.mem_cons_of_mem _ hw)]
  split
  ·
   have:x≠n:=by rintro rfl;exact h v List.mem_cons_self
   simp [this]
  ·rfl
theorem d5 {kindOf:Str→Option NameKind} {x:Str}: ∀{binds:List (Str×Value)} {m:Str→Option Value},(∀v,(x,v) ∉ binds)→bindC kindOf binds m x=m x
 | [],_,_=>rfl
 |(n,v)::r,m,h=>by
  unfold bindC
  rw [d5 fun w hw=>h w (List.mem_cons_of_mem _ hw)]
  split
  ·rfl
  ·
   have:x≠n:=by rintro rfl;exact h v List.mem_cons_self
   simp [this]
theorem d4 {kindOf:Str→Option NameKind} {x:Str} {v:Value}: ∀{P:List Str} {vs:List Value} {i:Nat} {m:Str→Option Value},P.Nodup→P[i]?=some x→vs[i]?=some v→kindOf x=some .local→
  bindL kindOf (P.zip vs) m x=some v
 | [],_,_,_,_,h,_,_=>by simp at h
 |_::_,[],_,_,_,_,h,_=>by simp at h
 |p::P,w::vs,0,m,nd,h1,h2,hk=>by
  simp at h1 h2;subst h1;subst h2
  show bindL kindOf ((p,w)::P.zip vs) m p=_
  unfold bindL
  rw [d0 fun v hv=>(List.nodup_cons.mp nd).1 (List.of_mem_zip hv).1,if_pos hk]
  simp
 |p::P,w::vs,i+1,m,nd,h1,h2,hk=>by
  show bindL kindOf ((p,w)::P.zip vs) m x=_
  unfold bindL
  exact d4 (i:=i) (List.nodup_cons.mp nd).2 (by simpa using h1) (by simpa using h2) hk
theorem d6 {kindOf:Str→Option NameKind} {x:Str} {v:Value}: ∀{P:List Str} {vs:List Value} {i:Nat} {m:Str→Option Value},P.Nodup→P[i]?=some x→vs[i]?=some v→kindOf x≠some .local→
  bindC kindOf (P.zip vs) m x=some v
 | [],_,_,_,_,h,_,_=>by simp at h
 |_::_,[],_,_,_,_,h,_=>by simp at h
 |p::P,w::vs,0,m,nd,h1,h2,hk=>by
  simp at h1 h2;subst h1;subst h2
  show bindC kindOf ((p,w)::P.zip vs) m p=_
  unfold bindC
  rw [d5 fun v hv=>(List.nodup_cons.mp nd).1 (List.of_mem_zip hv).1,if_neg hk]
  simp
 |p::P,w::vs,i+1,m,nd,h1,h2,hk=>by
  show bindC kindOf ((p,w)::P.zip vs) m x=_
  unfold bindC
  exact d6 (i:=i) (List.nodup_cons.mp nd).2 (by simpa using h1) (by simpa using h2) hk
noncomputable def start (N:List Str) (vs:List V):St:=vs.map some++List.replicate (N.length - vs.length) none
noncomputable def aT (CX:cB) (P:Program) (w:World) (K:PySem.W.Frag) (mg:Str→Option Value) (base:Heap) (N:List Str) (qual:Str) (scope:Scope) (f:Addr) (cd:Value) (A:Around) (outer:List Env) (s:Shared) (H:Hp) (E:XK):Cx where
 prog:=P
 w:=w
 K:=K
 mg:=mg
 base:=base
 A:=A.deeper (envOfC qual scope s.heap.objs.size f cd)
 N:=N
 s₀:=s
 H₀:=H
 env:=envOfC qual scope s.heap.objs.size f cd
 outer:=outer
 stack:=envOfC qual scope s.heap.objs.size f cd::outer
 ex:=[]
 calm:=true
 fn:=fun _=>true
 pn:=[]
 xe:=fun e s'=>wpAny (model P w) (A.deeper (envOfC qual scope s.heap.objs.size f cd)) (leaving (envOfC qual scope s.heap.objs.size f cd) e) (fun _ s''=>CX outer H s E e s'') (fun e' s''=>CX outer H s E e' s'') s'
theorem fm {sc:Scope} {n:Nat} {x:Str} (h:sc.names.lookup x=some .cell): ∃c,(cellsFrom n sc.names []).lookup x=some c:=by
 have q:=PySem.W.cellsFrom_some sc.names n [] (.inl h)
 exact Option.isSome_iff_exists.mp q
theorem dW {CX:cB} {P:Program} {w:World} {K:PySem.W.Frag} {mg:Str→Option Value} {base:Heap} {N ps:List Str} {qual:Str} {scope:Scope} {f:Addr} {cd:Value} {A:Around} {outer:List Env} {s s1:Shared} {H:Hp} {E:XK} {us:List Value} {vs:List V}
  (S:aG N ps scope) (hd:A.handled=none) (e0:jM P w K mg base A outer s H) (hl:vs.length=ps.length) (r:Vals vs us)
  (x:InCallC s s.heap.objs.size (bindL (envOfC qual scope s.heap.objs.size f cd).kindOf (ps.zip us) fun _=>none) (cellsFrom (s.heap.objs.size+1) scope.names []) (bindC (envOfC qual scope s.heap.objs.size f cd).kindOf (ps.zip us) fun _=>none) s1):
  Inv (aT CX P w K mg base N qual scope f cd A outer s H E) [] (start N vs) H s1:=by
 have hpl:ps.length≤N.length:=by have:=congrArg List.length S.pre;rw [List.length_take] at this;omega
 obtain ⟨h1,tk,rfl,hk⟩:=x.done
 have noA: ∀b:Addr,b ∉ (aT CX P w K mg base N qual scope f cd A outer s H E).ex:=fun b z=>absurd (show b∈([]:List Addr) from z) (by simp)
 refine ⟨⟨e0.mod,S.kind,rfl,rfl,Nat.le_refl _,fun y z c h1 h2=>?_,fun y hy=>?_,fun y c _ h=>?_,fun _=>hd,Around.frames_deeper e0.frames,.inr ⟨rfl,rfl⟩,fun b z=>absurd z (noA b),e0.bs,e0.bsz,fun b _ _=>noA b,fun b z=>absurd z (noA b),e0.funs,e0.frf⟩,
  rfl,e0.bare,Un.kept hk,⟨_,x.toInCall.ns,fun i y v h1 h2 h3=>?_⟩,fun y c h=>⟨_,x.cell y c h⟩,e0.hok.fresh (Nat.le_refl _),fun y c h=>?_,fun p hp=>absurd (show p∈([]:List (Addr×Obj)) from hp) (by simp),e0.hok.kept hk,?_⟩
 ·exact name_of_addr x.apart (PySem.mem_of_lookup h1) (PySem.mem_of_lookup h2)
 ·
  have hy:scope.names.lookup y=some .cell∨scope.names.lookup y=some .free:=hy
  rcases hy with hy|hy
  ·exact fm hy
  ·exact absurd rfl (S.nofree _ (PySem.mem_of_lookup hy))
 ·exact Nat.le_of_lt (x.above y c (PySem.mem_of_lookup h))
 ·have hi:i<vs.length:=by
   unfold start at h2
   by_cases hi:i<vs.length
   ·exact hi
   ·
    rw [List.getElem?_append_right (by simpa using hi)] at h2
    rw [List.getElem?_replicate] at h2
    split at h2<;>cases h2
  have ha:vs[i]?=some v:=by
   unfold start at h2
   rw [List.getElem?_append_left (by simpa using hi),List.getElem?_map] at h2
   cases e:vs[i]? with
   |none=>rw [e] at h2;cases h2
   |some a=>rw [e] at h2;cases h2;rfl
  obtain ⟨u,hu,rv⟩:=r.get ha
  have hp:ps[i]?=some y:=by
   rw [←S.pre,List.getElem?_take_of_lt (by omega)];exact h1
  have ndP:ps.Nodup:=by rw [←S.pre];exact S.nd.sublist (List.take_sublist _ _)
  refine ⟨u,rv,?_⟩
  rcases S.par y (List.mem_of_getElem? hp) with k|k
  ·exact .inl ⟨k,d4 ndP hp hu k⟩
  ·
   obtain ⟨c,e⟩:=fm (n:=s.heap.objs.size+1) k
   refine .inr ⟨.inl k,c,e,?_⟩
   have q:=x.cell y c e
   rw [d6 ndP hp hu (by show scope.names.lookup y≠_;rw [k];decide)] at q
   exact q
 ·exact e0.hok.fresh (Nat.le_of_lt (x.above y c (PySem.mem_of_lookup h)))
 ·
  unfold start
  show _=N.length
  rw [List.length_append,List.length_map,List.length_replicate]
  omega
theorem n4 {CX:cB} {P:Program} {w:World} {K:PySem.W.Frag} {mg:Str→Option Value} {base:Heap} {k:Nat} {f:Addr} {name qual:Str} {params:Arguments} {body:List Stmt} {scope:Scope} {dV kV doc pm cdv ct oc:Value} {an od:Option Addr}
  {osl:Array (Option Value)} {N ps:List Str} {sp:Sp} (lk:K.lookup f=some ⟨oc,od,.func (PySem.W.fnOf name qual params body scope dV kV doc pm an cdv ct),osl⟩) (hcd:PySem.W.codeIn K cdv qual=true) (S:aG N ps scope)
  (len: ∀vs H Q E,sp vs H Q E→vs.length=ps.length)
  (
   hbody: ∀(A:Around) (outer:List Env) (s:Shared) (H:Hp) (vs:List V) (Q:VK) (E:XK),bb k (A.deeper (envOfC qual scope s.heap.objs.size f cdv))→sp vs H Q E→
   ∃t,fx (aT CX P w K mg base N qual scope f cdv A outer s H E) body t∧t {nx:=fun _ H'=>Q .non H',rt:=Q} (start N vs) H):
  eR P w K mg base CX (k+1) f (PySem.W.fnOf name qual params body scope dV kV doc pm an cdv ct) ps sp:=by
 refine ⟨len,fun A outer s H args us vs Q E hr e0 hb r hsp=>?_⟩
 have hl:=len _ _ _ _ hsp
 have KX:K.In s.heap:=e0.mod.kin.keeps fun b o e=>(e0.bs b o e).1
 have lim:s.heap.NoLimit:=e0.mod.nolimit.keeps fun b o e=>(e0.bs b o e).1
 have hkind: ∀y∈ps.zip us,scope.names.lookup y.1=some .local∨(scope.names.lookup y.1=some .cell∧((cellsFrom (s.heap.objs.size+1) scope.names []).lookup y.1).isSome=true):=fun ⟨n,v⟩ hy=>by
  rcases S.par n (List.of_mem_zip hy).1 with q|q
  ·exact .inl q
  ·exact .inr ⟨q,PySem.W.cellsFrom_some _ _ _ (.inl q)⟩
 refine codeAny_call_function hr.depth (KX _ _ lk) rfl S.co S.gen rfl (PySem.W.codeRec_of KX hcd) (hb _ _ _ _ ?_)
 refine wpAny_newFunctionEnv_cells S.kind hkind fun env he s1 x=>?_
 subst he
 refine ⟨lim.keeps x.toInCall.keep,codeAny_func ?_⟩
 obtain ⟨t,ht,hq⟩:=hbody A outer s H vs Q E (hr.deeper _) hsp
 have I:Inv (aT CX P w K mg base N qual scope f cdv A outer s H E) [] (start N vs) H s1:=dW S hr.hd e0 hl r x
 refine wpAny_mono (ht [] s1 (start N vs) H _ I hq) (fun fl s' hs=>?_) fun e s' hs=>hs
 have fin: ∀{σ':St} {H':Hp} {v:V} {u:Value},Inv (aT CX P w K mg base N qual scope f cdv A outer s H E) [] σ' H' s'→RelV v u→Q v H'→CE outer P w H s Q u s':=
  fun {σ' H' v u} J rv q=>⟨v,H',J.os,J.bare,J.base,J.hok,rv,q⟩
 cases fl with
 |ret u=>
  obtain ⟨v,σ',H',J,rv,q⟩:=hs
  exact fin J rv q
 |next=>
  obtain ⟨σ',H',J,q⟩:=hs
  exact fin (v:=V.non) (u:=Value.none) J rfl q
 |brk=>
  obtain ⟨_,_,_,q⟩:=hs
  exact False.elim q
 |cont=>
  obtain ⟨_,_,_,q⟩:=hs
  exact False.elim q
section
variable {X:Cx} {x:Str} {p pos:Pos} {e:Expr} {es:List Expr} {t:TA} {id T:String} {r:List V→Hp→VK→Prop}
def mY (r:List V→Hp→VK→Prop) (t:TA):TE:=fun σ H Q=>t σ H fun vs H1=>r vs H1 Q
theorem jh (hc:aK X (.builtin id) r) (hg:Gl X x) (hm:X.mg x=none) (hv:bootBuiltins x=some (.builtin id)) (ha:PA X (e::es) t) (hn:x≠ "__name__" :=by decide) (hdb:(x == ("__debug__" : Str))=false:=by decide)
  (he:starEach (e::es) X.env=(false,eval e X.env)::starEach es X.env:=by rfl) (hpl:(backTo pos (starEach es X.env)).any (·.1)=false:=by rfl):PE X (.Call (.Name x p) (e::es) [] pos) (mY r t):=by
 intro pins s σ H Q I h
 refine wpAny_Call_Name_kw (eF I hg hm hv ?_ hn hdb)
 exact PyProof.Rows.callWith_builtin1 (thn (ha pos pins s σ H _ I h) fun us s1 ⟨vs,H1,I1,r1,q1⟩=>hc pins s1 σ H1 vs us Q I1 r1 q1) he hpl
theorem ie (hc:aK X (.type T) r) (hg:Gl X x) (hm:X.mg x=none) (hv:bootBuiltins x=some (.type T)) (ha:PA X (e::es) t) (hn:x≠ "__name__" :=by decide) (hdb:(x == ("__debug__" : Str))=false:=by decide)
  (he:starEach (e::es) X.env=(false,eval e X.env)::starEach es X.env:=by rfl) (hpl:(backTo pos (starEach es X.env)).any (·.1)=false:=by rfl):PE X (.Call (.Name x p) (e::es) [] pos) (mY r t):=by
 intro pins s σ H Q I h
 refine wpAny_Call_Name_kw (eF I hg hm hv ?_ hn hdb)
 exact PyProof.Rows.callWith_type1 (thn (ha pos pins s σ H _ I h) fun us s1 ⟨vs,H1,I1,r1,q1⟩=>hc pins s1 σ H1 vs us Q I1 r1 q1) he hpl
end
end L2
namespace HT
open PySem PyProof.Rows
section
open PySem.SeqAt
open PySem.AutoSeq1 (wpAny_loadPart')
open PySem.MeetsSeq PySem.MeetsSeq2 PySem.MeetsSeq3
end
section
variable {prog:Program} {w:World} {A:Around} {E:Value→Shared→Prop} {s:Shared}
theorem kS {t b:Addr} {vs ws:List Value} {Q:Value→Shared→Prop} (ht:IsTup s.heap t vs.toArray) (hb:IsTup s.heap b ws.toArray) (hv:vs≠[])
  (h1:ws= []→Q (.ref t) s) (h2:ws≠[]→Q (.ref s.heap.objs.size) {s with heap:=s.heap.push {cls:= .type "tuple",data:= .seq (vs++ws).toArray}})
  (hsz:vs.length+ws.length≤sizeLine):wpAny (model prog w) A (binaryOp .Add (.ref t) (.ref b)) Q E s:=by
 obtain ⟨⟨cls,dd,data,sl⟩,ho,hc,n,hd⟩:=id ht
 obtain ⟨⟨cls2,dd2,data2,sl2⟩,ho2,hc2,n2,hd2⟩:=id hb
 simp only at hc hd hc2 hd2
 subst hc hd hc2 hd2
 have e:vs.toArray++ws.toArray=(vs++ws).toArray:=by simp
 by_cases hw:ws= []
 ·exact concat_meets ⟨_,ho,rfl⟩ ⟨_,ho2,rfl⟩ noFill_tuple_add seq_tuple_add PySem.F.slot_tuple_add PySem.F.entry_tuple_add (PySem.F.args_tuple_add_2 _ _)
   (tuple_addW1 t b vs.toArray ws.toArray n n2 dd dd2 sl sl2 (by simpa using hv) (by simp [hw])) ⟨ho,ho2,h1 hw⟩
 ·refine concat_meets ⟨_,ho,rfl⟩ ⟨_,ho2,rfl⟩ noFill_tuple_add seq_tuple_add PySem.F.slot_tuple_add PySem.F.entry_tuple_add (PySem.F.args_tuple_add_2 _ _)
   (tuple_addW2 t b vs.toArray ws.toArray n n2 dd dd2 sl sl2 (by simpa using hv) (by simpa using hw) (by rw [List.size_toArray,List.size_toArray];exact hsz)) ⟨ho,ho2,?_⟩
  rw [e]
  exact h2 hw
noncomputable def aV (n d:Nat):Option Int→Nat
 |none=>d
 |some v=>if v<0 then (v+(n:Int)).toNat else min v.toNat n
theorem gs (n d k:Nat):aV n d (some (k:Int))=min k n:=by
 show (if (k:Int)<0 then ((k:Int)+(n:Int)).toNat else min (k:Int).toNat n)=min k n
 rw [if_neg (by omega),Int.toNat_natCast]
theorem lJ (n d:Nat) (hd:d≤n) (o:Option Int):aV n d o≤n:=by
 cases o with
 |none=>exact hd
 |some v=>
  show (if v<0 then (v+(n:Int)).toNat else min v.toNat n)≤n
  by_cases hv:v<0
  ·rw [if_pos hv];omega
  ·rw [if_neg hv];exact Nat.min_le_right _ _
theorem gT (v:Int) (n d:Nat):(if v<0 then max (v+(n:Int)) 0 else min v (n:Int))=((aV n d (some v):Nat):Int):=by
 show (if v<0 then max (v+(n:Int)) 0 else min v (n:Int))=(((if v<0 then (v+(n:Int)).toNat else min v.toNat n):Nat):Int)
 by_cases hv:v<0
 ·simp only [if_pos hv];omega
 ·simp only [if_neg hv];omega
theorem gk (lo hi:Option Int) (n:Nat):Builtin.Slice.sliceAdjust lo hi 1 (n:Int)=(((aV n 0 lo:Nat):Int),((aV n n hi:Nat):Int)):=by
 have h1: ¬((1:Int)<0):=by omega
 unfold Builtin.Slice.sliceAdjust
 simp only [h1,if_false]
 refine Prod.ext ?_ ?_
 ·
  cases lo with
  |none=>rfl
  |some v=>exact gT v n 0
 ·
  cases hi with
  |none=>rfl
  |some v=>exact gT v n n
theorem fT (i j:Nat):Builtin.Slice.slicePlaces (i:Int) (j:Int) 1=j - i:=by
 unfold Builtin.Slice.slicePlaces
 have h1:(1:Int) > 0:=by omega
 simp only [h1,if_true,Int.ediv_one]
 split<;>omega
theorem de {v:Value} {o:Option Int} {Q:Option Int→Shared→Prop} (p:IsPart v o) (h:Q o s):wpAny (model prog w) A (Builtin.Slice.slicePartIndex v) Q E s:=by
 cases p with
 |none=>exact slicePart_none h
 |int i t=>exact slicePart_int h
theorem cQ {sl:Addr} {vl vu:Value} {lo hi:Option Int} {n:Nat} {Q:Int×Int×Nat→Shared→Prop} (hs:s.heap.IsSliceOf sl vl vu .none) (pl:IsPart vl lo) (pu:IsPart vu hi)
  (h:Q (((aV n 0 lo:Nat):Int),1,aV n n hi - aV n 0 lo) s):wpAny (model prog w) A (Builtin.Slice.sliceApplied (.ref sl) (pure (n:Int))) Q E s:=by
 obtain ⟨os,hos,hcs,hds⟩:=id hs
 unfold Builtin.Slice.sliceApplied Builtin.Slice.sliceFields
 refine wpAny_bind (wpAny_bind (wpAny_field hos hds (x:=vl) rfl (wpAny_bind (wpAny_field hos hds (x:=vu) rfl (wpAny_bind (wpAny_field hos hds (x:= .none) rfl (wpAny_pure ?_)))))))
 refine wpAny_bind (slicePart_none ?_)
 show wpAny _ _ (if ((1:Int) == 0)=true then _ else _) _ _ s
 rw [if_neg (by decide)]
 refine wpAny_bind (de pl (wpAny_bind (de pu (wpAny_bind (wpAny_pure ?_)))))
 show wpAny _ _ (match Builtin.Slice.sliceAdjust lo hi 1 (n:Int) with|(lo,hi)=>pure (lo,(1:Int),Builtin.Slice.slicePlaces lo hi 1)) _ _ s
 rw [gk lo hi n]
 show wpAny _ _ (pure (((aV n 0 lo:Nat):Int),(1:Int),Builtin.Slice.slicePlaces ((aV n 0 lo:Nat):Int) ((aV n n hi:Nat):Int) 1)) _ _ s
 rw [fT]
 exact wpAny_pure h
theorem jf (xs:Array Value) (i k:Nat):((List.range k).filterMap fun (m:Nat)=>xs[((i:Int)+(m:Int)*1).toNat]?).toArray=((xs.toList.drop i).take k).toArray:=by
 have e:(fun (m:Nat)=>xs[((i:Int)+(m:Int)*1).toNat]?)=fun m=>xs[i+m]?:=by
  funext m
  have:((i:Int)+(m:Int)*1).toNat=i+m:=by omega
  rw [this]
 rw [e]
 have:=pick_run xs i k
 rw [List.filterMap_map] at this
 have e2:((fun x=>xs[x]?)∘fun x=>i+x)=fun m=>xs[i+m]?:=rfl
 rw [e2] at this
 rw [this]
theorem cJ {t sl:Addr} {items:Array Value} {vl vu:Value} {lo hi:Option Int} {Q:Value→Shared→Prop} (ht:IsTup s.heap t items) (hs:s.heap.IsSliceOf sl vl vu .none) (pl:IsPart vl lo) (pu:IsPart vu hi)
  (hw: ¬(aV items.size 0 lo=0∧aV items.size items.size hi=items.size))
  (h:Q (.ref s.heap.objs.size) {s with heap:=s.heap.push {cls:= .type "tuple",data:= .seq ((items.toList.drop (aV items.size 0 lo)).take (aV items.size items.size hi - aV items.size 0 lo)).toArray}})
  (hsz:items.size≤sizeLine):wpAny (model prog w) A (getItem (.ref t) (.ref sl)) Q E s:=by
 have htake:sizeOk (.seq ((items.toList.drop (aV items.size 0 lo)).take (aV items.size items.size hi - aV items.size 0 lo)).toArray):=by
  show ((items.toList.drop (aV items.size 0 lo)).take (aV items.size items.size hi - aV items.size 0 lo)).toArray.size≤sizeLine
  rw [List.size_toArray,List.length_take,List.length_drop,Array.length_toList]
  omega
 have hj:aV items.size items.size hi≤items.size:=lJ _ _ (Nat.le_refl _) hi
 obtain ⟨os,hos,hcs,hds⟩:=id hs
 have hTs:s.TypeIs (.ref sl) "slice" :=⟨os,hos,hcs⟩
 unfold getItem
 try with_reducible refine wpAny_holding ?_
 first|refine wpAny_bind (wpAny_pure ?_)|skip
 refine wpAny_bind (wpAny_sequenceKey ht.typeIs (by decide) ?_)
 refine wpAny_bind (wpAny_callSpecial?_slot (name:=Str.ofString "__getitem__") ht.typeIs PyProof.Rows.slot_tuple_getitem
  (wpAny_call_entry PyProof.Rows.slot_tuple_getitem ht.typeIs entry_tuple_getitem ?_ (args_tuple_getitem _ _)))
 show wpAny _ _ (Builtin.Tuple.tupleItemsOf (.ref t) >>= _) _ _ s
 refine wpAny_bind (tupleItemsOf_ ht ?_)
 refine wpAny_bind (wpAny_typeOf hTs ?_)
 rw [if_pos (by decide)]
 refine wpAny_bind (cQ hs pl pu ?_)
 have hno: ¬((((aV items.size 0 lo:Nat):Int) == 0&&(1:Int) == 1&&(aV items.size items.size hi - aV items.size 0 lo) == items.size)=true):=by
  intro q
  rw [Bool.and_eq_true,Bool.and_eq_true] at q
  have q1:((aV items.size 0 lo:Nat):Int)=0:=eq_of_beq q.1.1
  have q2:aV items.size items.size hi - aV items.size 0 lo=items.size:=eq_of_beq q.2
  exact hw ⟨by omega,by omega⟩
 show wpAny _ _ (if (((aV items.size 0 lo:Nat):Int) == 0&&(1:Int) == 1&&(aV items.size items.size hi - aV items.size 0 lo) == items.size)=true then _ else _) _ _ s
 rw [if_neg hno,jf]
 first
  |exact wpAny_bind (m:=Builtin.Tuple.tupleExact _) (wpAny_newObj_type (wpAny_pure ⟨_,rfl,wpAny_pure h⟩) htake)
  |exact wpAny_bind (m:=Builtin.Tuple.tupleExact _) (wpAny_newObj_type (wpAny_bind (wpAny_pure (wpAny_pure ⟨_,rfl,wpAny_pure h⟩))) htake)
  |exact wpAny_bind (wpAny_bind (m:=Builtin.Tuple.tupleExact _) (wpAny_newObj_type (wpAny_pure (wpAny_pure ⟨_,rfl,wpAny_pure h⟩)) htake))
  |exact wpAny_bind (wpAny_bind (m:=Builtin.Tuple.tupleExact _) (wpAny_newObj_type (wpAny_pure ⟨_,rfl,wpAny_pure h⟩) htake))
end
end HT
namespace L2
open PySem PySem.Spec PyProof.Rows
noncomputable abbrev TO:=St→Hp→(Option Int→Hp→Prop)→Prop
def PO (X:Cx) (e:Option Expr) (t:TO):Prop:=
 ∀(pins:List (Addr×Obj)) (s:Shared) (σ:St) (H:Hp) (Q:Option Int→Hp→Prop),Inv X pins σ H s→t σ H Q→
  wpAny (model X.prog X.w) X.A (evalPart e X.env) (fun u s'=> ∃o H',Inv X pins σ H' s'∧IsPart u o∧Q o H') X.xe s
def jU:TO:=fun _ H Q=>Q none H
def k8 (t:TE):TO:=fun σ H Q=>t σ H fun x H1=> ∃i,x = .int i∧Q (some i) H1
section
variable {X:Cx} {e:Expr} {te:TE} {lo hi:Option Expr} {tl th:TO} {pos p2:Pos}
theorem gw (h:PE X e te):PO X (some e) (k8 te):=by
 intro pins s σ H Q I hw
 rw [evalPart_some]
 refine thn (h pins s σ H _ I hw) fun u s1 ⟨x,H1,I1,r1,q1⟩=>?_
 obtain ⟨i,rfl,q⟩:=q1
 obtain ⟨t,rfl⟩:=r1
 exact ⟨some i,H1,I1,.int i t,q⟩
def gU (X:Cx) (r:V→Option Int→Option Int→Hp→VK→Prop):Prop:=
 ∀(pins:List (Addr×Obj)) (s:Shared) (σ:St) (H:Hp) (x:V) (v vl vu:Value) (lo hi:Option Int) (sl:Addr) (Q:VK),Inv X pins σ H s→RelV x v→s.heap.IsSliceOf sl vl vu .none→IsPart vl lo→IsPart vu hi→r x lo hi H Q→
  ∃T id,typeLookup (.type T) "__getitem__" = pure (some (.builtin id))∧s.TypeIs v T∧wpAny (model X.prog X.w) X.A (getItem v (.ref sl)) (EP X pins σ Q) X.xe s
theorem gU.or {r r':V→Option Int→Option Int→Hp→VK→Prop} (h:gU X r) (h':gU X r'):gU X (fun x lo hi H Q=>r x lo hi H Q∨r' x lo hi H Q):=by
 intro pins s σ H x v vl vu lo hi sl Q I rx hs pl pu q
 rcases q with q|q
 ·exact h pins s σ H x v vl vu lo hi sl Q I rx hs pl pu q
 ·exact h' pins s σ H x v vl vu lo hi sl Q I rx hs pl pu q
def oZ (r:V→Option Int→Option Int→Hp→VK→Prop) (te:TE) (tl th:TO):TE:=fun σ H Q=>te σ H fun x H1=>tl σ H1 fun l H2=>th σ H2 fun u H3=>r x l u H3 Q
theorem jg {r:V→Option Int→Option Int→Hp→VK→Prop} (hr:gU X r) (he:PE X e te) (hl:PO X lo tl) (hu:PO X hi th):PE X (.Subscript e (.Slice lo hi none p2) pos) (oZ r te tl th):=by
 intro pins s σ H Q I h
 refine Subscript_ (thn (he pins s σ H _ I h) fun v s1 ⟨x,H1,I1,r1,q1⟩=>?_)
 refine wpAny_Slice (thn (hl pins s1 σ H1 _ I1 q1) fun vl s2 ⟨l,H2,I2,pl,q2⟩=>thn (hu pins s2 σ H2 _ I2 q2) fun vu s3 ⟨u,H3,I3,pu,q3⟩=>?_)
 rw [evalPart_none]
 refine wpAny_pure ?_
 have I4:Inv X pins σ H3 {s3 with heap:=s3.heap.push {cls:= .type "slice",data:= .fields #[vl,vu,.none]}}:=I3.kept (t':=s3.toks) fun b ob q=>Heap.get?_push_of_some _ q
 obtain ⟨T,id,hT,ht,hg⟩:=hr pins {s3 with heap:=s3.heap.push {cls:= .type "slice",data:= .fields #[vl,vu,.none]}} σ H3 x v vl vu l u s3.heap.objs.size Q I4 r1 (Heap.IsSliceOf.new ..) pl pu q3
 show wpAny (model X.prog X.w) X.A (subscriptTail e (.Slice lo hi none p2) v (.ref s3.heap.objs.size)) (EP X pins σ Q) X.xe {s3 with heap:=s3.heap.push {cls:= .type "slice",data:= .fields #[vl,vu,.none]}}
 exact tail_any (ops:=[.ref s3.heap.objs.size,v]) ht hT hg (by with_unfolding_all rfl)
noncomputable def dI (xs:List V) (lo hi:Option Int):List V:=(xs.drop (HT.aV xs.length 0 lo)).take (HT.aV xs.length xs.length hi - HT.aV xs.length 0 lo)
theorem cW (xs:List V) (lo hi:Option Int):(dI xs lo hi).length≤xs.length:=by
 unfold dI
 rw [List.length_take,List.length_drop]
 omega
def nu (K:PySem.W.Frag):V→Option Int→Option Int→Hp→VK→Prop:=fun x lo hi H Q=> ∃a xs,x = .ref a∧bV K H a xs∧
 ¬(HT.aV xs.length 0 lo=0∧HT.aV xs.length xs.length hi=xs.length)∧∀p,H p=none→Q (.ref p) (upd H p (.tup (dI xs lo hi)))
theorem lH:gU X (nu X.K):=by
 intro pins s σ H x v vl vu lo hi sl Q I rx hs pl pu h
 obtain ⟨a,xs,rfl,hx,hw,q⟩:=h
 cases rx
 obtain ⟨its,r,ht,hz⟩:=I.tuple hx
 have hlen:its.toArray.size=xs.length:=by rw [List.size_toArray];exact r.length.symm
 refine ⟨"tuple",_,PyProof.Rows.slot_tuple_getitem.lookup,ht.typeIs,?_⟩
 refine HT.cJ ht hs pl pu (by rw [hlen];exact hw) ?_ (by rw [hlen];exact hz)
 rw [hlen]
 refine ⟨.ref s.heap.objs.size,_,I.laid (t':=s.toks) (o:= .tup (dI xs lo hi)) (fun b ob q=>Heap.get?_push_of_some _ q) (Nat.le_refl _) ?_,rfl,q _ (I.hok.fresh (Nat.le_refl _))⟩
 exact ⟨Nat.le_trans (cW xs lo hi) hz,_,(r.drop (HT.aV xs.length 0 lo)).take (HT.aV xs.length xs.length hi - HT.aV xs.length 0 lo),IsTup.new _ _⟩
def lh (K:PySem.W.Frag):R2:=fun x y H Q=> ∃a b xs ys,x = .ref a∧y = .ref b∧bV K H a xs∧bV K H b ys∧xs≠[]∧xs.length+ys.length≤sizeLine∧
 (ys= []→Q (.ref a) H)∧(ys≠[]→∀p,H p=none→Q (.ref p) (upd H p (.tup (xs++ys))))
theorem Vals.eB {xs:List V} {us:List Value} (r:Vals xs us):us= []↔xs= []:=by
 cases r with
 |nil=>simp
 |cons _ _=>simp
theorem kr:cf X (binaryOp .Add) (lh X.K):=by
 intro pins s σ H x y v u Q I rx ry h
 obtain ⟨a,b,xs,ys,rfl,rfl,ha,hb,hx,hz,q1,q2⟩:=h
 cases rx
 cases ry
 obtain ⟨its,r1,p1,_⟩:=I.tuple ha
 obtain ⟨its2,r2,p2,_⟩:=I.tuple hb
 refine HT.kS p1 p2 (fun z=>hx (r1.eB.mp z)) (fun z=>⟨.ref a,H,I,rfl,q1 (r2.eB.mp z)⟩) (fun z=>?_) (by rw [←r1.length,←r2.length];exact hz)
 refine ⟨.ref s.heap.objs.size,_,I.laid (t':=s.toks) (o:= .tup (xs++ys)) (fun b ob q=>Heap.get?_push_of_some _ q) (Nat.le_refl _) ?_,rfl,q2 (fun w=>z (r2.eB.mpr w)) _ (I.hok.fresh (Nat.le_refl _))⟩
 exact ⟨by rw [List.length_append];exact hz,_,r1.append r2,IsTup.new _ _⟩
end
noncomputable def kF (n:Nat) (i:Int):Option Nat:=if 0≤i then (if i<n then some i.toNat else none) else if -(n:Int)≤i then some (i+n).toNat else none
noncomputable def iK {α:Type} (xs:List α) (i:Int):Option α:=(kF xs.length i).bind fun j=>xs[j]?
theorem kC {n:Nat} {i:Int} {j:Nat} (h:kF n i=some j):seqIndex? i n=some j∧j<n∧-(n:Int)≤i∧i<n:=by
 unfold kF at h
 by_cases h0:0≤i
 ·
  rw [if_pos h0] at h
  by_cases h1:i<n
  ·
   rw [if_pos h1] at h
   have e:i.toNat=j:=Option.some.inj h
   exact ⟨by rw [seqIndex_of h0 h1,e],by omega,by omega,h1⟩
  ·rw [if_neg h1] at h;cases h
 ·
  rw [if_neg h0] at h
  by_cases h1 : -(n:Int)≤i
  ·
   rw [if_pos h1] at h
   have e:(i+n).toNat=j:=Option.some.inj h
   exact ⟨by rw [seqIndex_neg (by omega) h1,e],by omega,h1,by omega⟩
  ·rw [if_neg h1] at h;cases h
theorem eP {α:Type} {xs:List α} {i:Int} {v:α} (h:iK xs i=some v): ∃j,seqIndex? i xs.length=some j∧xs[j]?=some v∧j<xs.length∧-(xs.length:Int)≤i∧i<xs.length:=by
 unfold iK at h
 cases e:kF xs.length i with
 |none=>rw [e] at h;cases h
 |some j=>
  rw [e] at h
  obtain ⟨h1,h2,h3,h4⟩:=kC e
  exact ⟨j,h1,h,h2,h3,h4⟩
theorem kW {α:Type} {xs:List α} {j:Nat} {v:α} (h:xs[j]?=some v):iK xs (j:Int)=some v:=by
 have hj:j<xs.length:=(List.getElem?_eq_some_iff.mp h).1
 have e:kF xs.length (j:Int)=some j:=by
  unfold kF
  rw [if_pos (by omega),if_pos (by omega)];simp
 unfold iK;rw [e];exact h
def kX (b:Expr):Prop:= ∀o i,subscripted b false o i=operate [o,i] (getItem o i)
def gm (X:Cx) (r:R2):Prop:=
 ∀(value slice:Expr) (pins:List (Addr×Obj)) (s:Shared) (σ:St) (H:Hp) (x y:V) (v u:Value) (Q:VK),Inv X pins σ H s→RelV x v→RelV y u→r x y H Q→
  subscripted slice false v u=operate [v,u] (getItem v u)→wpAny (model X.prog X.w) X.A (subscriptTail value slice v u) (EP X pins σ Q) X.xe s
def oV (X:Cx) (id:String) (r:V→List V→Hp→VK→Prop):Prop:=
 ∀(pins:List (Addr×Obj)) (s:Shared) (σ:St) (H:Hp) (x:V) (xs:List V) (v:Value) (us:List Value) (Q:VK),Inv X pins σ H s→RelV x v→Vals xs us→r x xs H Q→
  wpAny (model X.prog X.w) X.A (call (.builtin id) (v::us)) (EP X pins σ Q) X.xe s
section
variable {X:Cx} {a b:Expr} {ta tb:TE} {pos:Pos}
theorem gm.or {r r':R2} (h:gm X r) (h':gm X r'):gm X (fun x y H Q=>r x y H Q∨r' x y H Q):=by
 intro value slice pins s σ H x y v u Q I rx ry q hs
 rcases q with q|q
 ·exact h value slice pins s σ H x y v u Q I rx ry q hs
 ·exact h' value slice pins s σ H x y v u Q I rx ry q hs
theorem gy {r:R2} (hr:gm X r) (ha:PE X a ta) (hb:PE X b tb) (hs:kX b):PE X (.Subscript a b pos) (m8 r ta tb):=by
 intro pins s σ H Q I h
 exact Subscript_ (mV ha hb I h fun v u s2 x y H2 I2 rx ry q=>hr a b pins s2 σ H2 x y v u Q I2 rx ry q (hs _ _))
def nG (K:PySem.W.Frag):R2:=fun x y H Q=> ∃p xs i v,x = .ref p∧y = .int i∧aF K H p xs∧iK xs i=some v∧Q v H
def nE (K:PySem.W.Frag):R2:=fun x y H Q=> ∃p xs i v,x = .ref p∧y = .int i∧bV K H p xs∧iK xs i=some v∧Q v H
def nF:R2:=fun x y H Q=> ∃z i c,x = .str z∧y = .int i∧z.length≤sizeLine∧iK z.cps.toList i=some c∧Q (.str ⟨#[c]⟩) H
theorem kz:gm X (nG X.K):=by
 intro value slice pins s σ H x y v u Q I rx ry h hs
 obtain ⟨p,xs,i,z,rfl,rfl,hq,he,q⟩:=h
 cases rx
 obtain ⟨t,rfl⟩:=ry
 obtain ⟨its,r,pl,hz⟩:=I.list hq
 obtain ⟨j,h1,h2,h3,h4,h5⟩:=eP he
 obtain ⟨w,ew,rw'⟩:=r.get h2
 have hl:=r.length
 have hn:=dw
 have fin:EP X pins σ Q w s:=⟨z,H,I,rw',q⟩
 by_cases h0:0≤i
 ·have hj:i.toNat=j:=by
   rw [seqIndex_of h0 h5] at h1
   exact Option.some.inj h1
  exact item_listR pl.isList h0 (by omega) (by rw [hj];simpa using ew) fin hs
 ·have hj:(i+(its.toArray.size:Int)).toNat=j:=by
   rw [seqIndex_neg (by omega) h4] at h1
   rw [List.size_toArray,←hl]
   exact Option.some.inj h1
  exact subscriptTail_builtinR (x:=w) pl.isList.typeIs slot_list_getitem.lookup
   (wpAny_getItem_list_neg (Q:=fun r s'=>r=w∧EP X pins σ Q r s') pl.isList (by omega) (by rw [List.size_toArray]<;>omega) (by omega) (by rw [hj];simpa using ew) ⟨rfl,fin⟩) hs
theorem mD:gm X (nE X.K):=by
 intro value slice pins s σ H x y v u Q I rx ry h hs
 obtain ⟨p,xs,i,z,rfl,rfl,hq,he,q⟩:=h
 cases rx
 obtain ⟨t,rfl⟩:=ry
 obtain ⟨its,r,pl,hz⟩:=I.tuple hq
 obtain ⟨j,h1,h2,h3,h4,h5⟩:=eP he
 obtain ⟨w,ew,rw'⟩:=r.get h2
 have hl:=r.length
 have hn:=dw
 have fin:EP X pins σ Q w s:=⟨z,H,I,rw',q⟩
 exact subscriptTail_builtinR (x:=w) pl.typeIs slot_tuple_getitem.lookup
  (getItem_tuple (j:=j) (Q:=fun r s'=>r=w∧EP X pins σ Q r s') pl (by omega) (by omega) (by rw [List.size_toArray,←hl];exact h1) (by simpa using ew) ⟨rfl,fin⟩) hs
theorem mE:gm X nF:=by
 intro value slice pins s σ H x y v u Q I rx ry h hs
 obtain ⟨z,i,c,rfl,rfl,hz,he,q⟩:=h
 obtain ⟨t,rfl⟩:=rx
 obtain ⟨t',rfl⟩:=ry
 obtain ⟨j,h1,h2,h3,h4,h5⟩:=eP he
 have hl:z.cps.toList.length=z.length:=by simp [Str.length]
 rw [hl] at h1 h4 h5
 have hn:=dw
 exact tail_any (typeIs_str s z t) slot_str_getitem.lookup (getItem_str (c:=c) (by
  have e1:decide (i < -(2 ^ 63:Int))=false:=decide_eq_false (by omega)
  have e2:decide (i≥2 ^ 63)=false:=decide_eq_false (by omega)
  rw [e1,e2,Bool.or_false]) (by rw [h1];simpa using h2) ⟨.str ⟨#[c]⟩,H,I.tok _,⟨_,rfl⟩,q⟩) hs
def pq (K:PySem.W.Frag):R2:=fun x y H Q=>nG K x y H Q∨nE K x y H Q∨nF x y H Q
theorem mF:gm X (pq X.K):=kz.or (mD.or mE)
theorem d8 (lo hi:Option Int) (n:Nat):(sliceBounds lo hi none n).1=((HT.aV n 0 lo:Nat):Int)∧(sliceBounds lo hi none n).2.1=((HT.aV n n hi:Nat):Int)∧(sliceBounds lo hi none n).2.2=1:=by
 refine ⟨?_,?_,rfl⟩
 ·
  cases lo with
  |none=>simp [sliceBounds,HT.aV]
  |some i=>
   simp only [sliceBounds,HT.aV,Option.getD_none,show (1:Int) > 0 by decide,if_true]
   by_cases h:i<0
   ·simp only [h,if_true]<;>omega
   ·simp only [h,if_false]<;>omega
 ·
  cases hi with
  |none=>simp [sliceBounds,HT.aV]
  |some i=>
   simp only [sliceBounds,HT.aV,Option.getD_none,show (1:Int) > 0 by decide,if_true]
   by_cases h:i<0
   ·simp only [h,if_true]<;>omega
   ·simp only [h,if_false]<;>omega
theorem dF (its:List Value) (lo hi:Option Int):slicePick its.toArray lo hi none=((its.drop (HT.aV its.length 0 lo)).take (HT.aV its.length its.length hi - HT.aV its.length 0 lo)).toArray:=by
 obtain ⟨h1,h2,h3⟩:=d8 lo hi its.toArray.size
 unfold slicePick
 rw [h1,h2,h3]
 simp only [sliceRange_one,pick_run,List.size_toArray]<;>rfl
def oI (K:PySem.W.Frag):V→Option Int→Option Int→Hp→VK→Prop:=fun x lo hi H Q=> ∃a xs,x = .ref a∧aF K H a xs∧∀p,H p=none→Q (.ref p) (upd H p (.lst (dI xs lo hi)))
theorem jW:gU X (oI X.K):=by
 intro pins s σ H x v vl vu lo hi sl Q I rx hs pl pu h
 obtain ⟨a,xs,rfl,hx,q⟩:=h
 cases rx
 obtain ⟨its,r,ht,hz⟩:=I.list hx
 have hlen:=r.length
 refine ⟨"list",_,slot_list_getitem.lookup,ht.isList.typeIs,?_⟩
 refine wpAny_getItem_list_slice ht.isList hs pl pu .none (by simp) ?_ (by rw [List.size_toArray]<;>omega)
 rw [dF,←hlen]
 refine ⟨.ref s.heap.objs.size,_,I.laid (t':=s.toks) (o:= .lst (dI xs lo hi)) (fun b ob q=>Heap.get?_push_of_some _ q) (Nat.le_refl _) ?_,rfl,q _ (I.hok.fresh (Nat.le_refl _))⟩
 exact ⟨Nat.le_trans (cW xs lo hi) hz,_,0,(r.drop (HT.aV xs.length 0 lo)).take (HT.aV xs.length xs.length hi - HT.aV xs.length 0 lo),Heap.get?_push_size _ rfl⟩
noncomputable def gJ:V→Bool
 | .non=>true
 | .bl _=>true
 | .int _=>true
 | .str _=>true
 |_=>false
noncomputable def pz:V→V→Bool
 | .non,.non=>true
 | .bl a,.bl b=>a == b
 | .bl a,.int b=>(if a then 1 else 0) == b
 | .int a,.bl b=>a == (if b then 1 else 0)
 | .int a,.int b=>a == b
 | .str a,.str b=>a == b
 |_,_=>false
noncomputable def ou (x:V) (xs:List V):Bool:=xs.any fun y=>pz y x
theorem eL:aK X (.builtin "len") (fun xs H Q=> ∃p ys,xs= [.ref p]∧(aF X.K H p ys∨bV X.K H p ys)∧Q (.int ys.length) H):=by
 intro pins s σ H xs us Q I r h
 obtain ⟨p,ys,rfl,hq,q⟩:=h
 obtain ⟨u,rfl,rx⟩:=vals1 r
 cases rx
 have hn:=dw
 rcases hq with hq|hq
 ·
  obtain ⟨its,r',pl,hz⟩:=I.list hq
  have hlen:=r'.length
  exact Calls.call_len_list pl.isList (by simp only [List.size_toArray]<;>omega) ⟨.int ys.length,H,I.tok _,⟨s.toks+1,by rw [List.size_toArray,hlen]⟩,q⟩
 ·
  obtain ⟨its,r',pl,hz⟩:=I.tuple hq
  have hlen:=r'.length
  exact len_tuple pl (by simp only [List.size_toArray]<;>omega) ⟨.int ys.length,H,I.tok _,⟨s.toks+1,by rw [List.size_toArray,hlen]⟩,q⟩
theorem eK:aK X (.builtin "len") (fun xs H Q=> ∃z,xs= [.str z]∧z.length≤sizeLine∧Q (.int z.length) H):=by
 intro pins s σ H xs us Q I r h
 obtain ⟨z,rfl,hz,q⟩:=h
 obtain ⟨u,rfl,t,rfl⟩:=vals1 r
 have hn:=dw
 exact len_str (by omega) ⟨.int z.length,H,I.tok _,⟨_,rfl⟩,q⟩
theorem aK.or {f:Value} {r r':List V→Hp→VK→Prop} (h:aK X f r) (h':aK X f r'):aK X f (fun xs H Q=>r xs H Q∨r' xs H Q):=by
 intro pins s σ H xs us Q I rs q
 rcases q with q|q
 ·exact h pins s σ H xs us Q I rs q
 ·exact h' pins s σ H xs us Q I rs q
theorem eJ:aK X (.type "list") (fun xs H Q=> ∃p ys,xs= [.ref p]∧(aF X.K H p ys∨bV X.K H p ys)∧∀l,H l=none→Q (.ref l) (upd H l (.lst ys))):=by
 intro pins s σ H xs us Q I r h
 obtain ⟨p,ys,rfl,hq,q⟩:=h
 obtain ⟨u,rfl,rx⟩:=vals1 r
 cases rx
 have fin: ∀(its:List Value),Vals ys its→ys.length≤sizeLine→∀(h':Heap) (c':Nat),(∀b o',s.heap.get? b=some o'→h'.get? b=some o')→
   h'.get? s.heap.objs.size=some {cls:= .type "list",dict:=none,data:= .seq its.toArray c',slots:=#[]}→EP X pins σ Q (.ref s.heap.objs.size) {s with heap:=h'}:=fun its r' hz h' c' kp e=>
  ⟨.ref s.heap.objs.size,_,I.laid (t':=s.toks) kp (Nat.le_refl _) (show aL X.prog X.w _ h' _ (.lst ys) from ⟨hz,its,c',r',e⟩),rfl,q _ (I.hok.fresh (Nat.le_refl _))⟩
 rcases hq with hq|hq
 ·
  obtain ⟨its,r',pl,hz⟩:=I.list hq
  have hlen:=r'.length
  obtain ⟨o,ho,hc,n,hd⟩:=pl.isList
  exact call_list_seq p (.inl rfl) ho hc hd (fun h' c' kp e=>fin its r' hz h' c' kp e) (by simp only [List.size_toArray]<;>omega)
 ·
  obtain ⟨its,r',pl,hz⟩:=I.tuple hq
  have hlen:=r'.length
  obtain ⟨o,ho,hc,n,hd⟩:=pl
  exact call_list_seq p (.inr rfl) ho hc hd (fun h' c' kp e=>fin its r' hz h' c' kp e) (by simp only [List.size_toArray]<;>omega)
def lA (K:PySem.W.Frag) (T:String) (x:V) (H:Hp):Prop:=match x with
 | .str _=>T = "str"
 | .int _=>T = "int"
 |
   .ref p=>(T = "list" ∧∃xs,aF K H p xs)∨(T = "tuple" ∧∃o,K.lookup p=some o∧o.cls = .type "tuple" ∧o.dict=none)∨
   (T = "dict" ∧((∃kvs,H p=some (.dK kvs))∨∃kvs,H p=some (.dT kvs)))∨(T = "set" ∧∃S n,H p=some (.set S n))
 |_=>False
theorem iN {pins:List (Addr×Obj)} {σ:St} {H:Hp} {s:Shared} {T:String} {x:V} {v:Value} (I:Inv X pins σ H s) (r:RelV x v) (ty:lA X.K T x H):
  s.TypeIs v T∧∀a,v = .ref a→∃ob,s.heap.get? a=some ob∧ob.dict=none:=by
 cases x with
 |str z=>
  obtain ⟨t,rfl⟩:=r
  cases (show T = "str" from ty)
  exact ⟨typeIs_str s z t,fun _ e=>nomatch e⟩
 |int i=>
  obtain ⟨t,rfl⟩:=r
  cases (show T = "int" from ty)
  exact ⟨typeIs_int s i t,fun _ e=>nomatch e⟩
 |ref p=>
  cases r
  rcases ty with ⟨rfl,xs,hq⟩|⟨rfl,o,hk,hc,hd⟩|⟨rfl,hk⟩|⟨rfl,S,n,hk⟩
  ·
   obtain ⟨its,_,pl,_⟩:=I.list hq
   refine ⟨pl.isList.typeIs,fun a e=>?_⟩
   cases e
   obtain ⟨o,n,e,c,hd,_⟩:=pl
   exact ⟨o,e,hd⟩
  ·
   refine ⟨⟨o,I.eS p o hk,hc⟩,fun a e=>?_⟩
   cases e
   exact ⟨o,I.eS _ o hk,hd⟩
  ·have z: ∃o,s.heap.get? p=some o∧o.ExactDict:=by
    rcases hk with ⟨kvs,hk⟩|⟨kvs,hk⟩
    ·
     obtain ⟨_,_,_,_,o,_,_,e,ex,_⟩:=I.hok p _ hk
     exact ⟨o,e,ex⟩
    ·
     obtain ⟨_,_,_,_,o,_,_,e,ex,_⟩:=I.hok p _ hk
     exact ⟨o,e,ex⟩
   obtain ⟨o,e,ex⟩:=z
   refine ⟨⟨o,e,ex.1⟩,fun a e2=>?_⟩
   cases e2
   exact ⟨o,e,ex.2.1⟩
  ·
   obtain ⟨o,_,_,_,e,ex,_⟩:=I.hok p _ hk
   refine ⟨⟨o,e,ex.1⟩,fun a e2=>?_⟩
   cases e2
   exact ⟨o,e,ex.2.1⟩
 |_=>exact False.elim ty
def nj (K:PySem.W.Frag) (T:String) (r:V→List V→Hp→VK→Prop) (to:TE):TE:=fun σ H Q=>to σ H fun x H1=>lA K T x H1∧r x [] H1 Q
def oq (K:PySem.W.Frag) (T:String) (r:V→List V→Hp→VK→Prop) (to:TE) (t:TA):TE:=fun σ H Q=>to σ H fun x H1=>lA K T x H1∧t σ H1 fun xs H2=>r x xs H2 Q
variable {o e:Expr} {es:List Expr} {to:TE} {t:TA} {name:Str} {apos cpos:Pos} {T id:String} {r:V→List V→Hp→VK→Prop}
theorem l6 (pa:PlainAttrs T) (slot:Slot T name id) (hty:typeOf (.builtin id)=pure (.type "method_descriptor")) (hm:oV X id r) (ho:PE X o to)
  (hbase:attributeBase o name X.env (eval o X.env)=eval o X.env:=by rfl) (hline:(apos.endLine == cpos.line)=true:=by rfl):PE X (.Call (.Attribute o name apos) [] [] cpos) (nj X.K T r to):=by
 intro pins s σ H Q I h
 refine wpAny_Call_method0_late hbase hline (thn (ho pins s σ H _ I h) fun v s1 ⟨x,H1,I1,r1,ty,q1⟩=>?_)
 obtain ⟨h1,h2⟩:=iN I1 r1 ty
 exact ⟨T,id,pa,slot,hty,h1,h2,Calls.callWith_builtin rfl (PySem.evalArgs_none (hm pins s1 σ H1 x [] v [] Q I1 r1 .nil q1))⟩
theorem nN (pa:PlainAttrs T) (slot:Slot T name id) (hty:typeOf (.builtin id)=pure (.type "method_descriptor")) (hm:oV X id r) (ho:PE X o to) (ha:PA X (e::es) t)
  (hbase:attributeBase o name X.env (eval o X.env)=eval o X.env:=by rfl)
  (
   hfew:((backTo cpos (starEach (e::es) X.env)).all (fun x=>!x.1)&&(backToKw cpos (keywordEach [] X.env)).all (fun x=>x.1.isSome)
   &&decide ((e::es).length+([]:List Keyword).length+(if ([]:List Keyword).isEmpty then 0 else 1)<30))=true:=by rfl)
  (hline:(apos.endLine == cpos.line)=true:=by rfl) (hs:starEach (e::es) X.env=(false,eval e X.env)::starEach es X.env:=by rfl) (hplain:(backTo cpos (starEach es X.env)).any (·.1)=false:=by rfl):
  PE X (.Call (.Attribute o name apos) (e::es) [] cpos) (oq X.K T r to t):=by
 intro pins s σ H Q I h
 refine wpAny_Call_method_late hbase hfew hline rfl (thn (ho pins s σ H _ I h) fun v s1 ⟨x,H1,I1,r1,ty,q1⟩=>?_)
 obtain ⟨h1,h2⟩:=iN I1 r1 ty
 refine ⟨T,id,pa,slot,hty,h1,h2,?_⟩
 have hA:=ha cpos pins s1 σ H1 _ I1 q1
 rw [hs] at hA⊢
 refine Calls.callWith_builtin (by show (false||(backTo cpos (starEach es X.env)).any (·.1))=false;rw [hplain]<;>rfl) (Calls.evalArgs_plain ?_)
 exact thn hA fun us s2 ⟨vs,H2,I2,r2,q2⟩=>hm pins s2 σ H2 x vs v us Q I2 r1 r2 q2
end
def o5 (X:Cx) (id:String) (r:V→List V→Hp→VK→Prop):Prop:=
 ∀(pins:List (Addr×Obj)) (s:Shared) (σ:St) (H:Hp) (x:V) (xs:List V) (v:Value) (us:List Value) (Q:VK),Inv X pins σ H s→RelV x v→Vals xs us→r x xs H Q→
  wpAny (model X.prog X.w) X.A (call (.builtin id) (v::us)) (EP X pins σ Q) X.xe s
theorem Vals.one: ∀{x:V} {us:List Value},Vals [x] us→∃u,us= [u]∧RelV x u
 |_,_,.cons r .nil=>⟨_,rfl,r⟩
theorem Vals.zero: ∀{us:List Value},Vals [] us→us= []
 |_,.nil=>rfl
section
variable {X:Cx} {pins:List (Addr×Obj)} {σ:St} {H:Hp} {s:Shared} {l b:Addr} {xs ys zs:List V}
theorem Inv.lset {its its':List Value} {n:Nat} {f:Array Value→Array Value} {t':Nat} (I:Inv X pins σ H s) (hH:H l=some (.lst xs))
  (e:s.heap.get? l=some {cls:= .type "list",data:= .seq its.toArray n}) (hf:f its.toArray=its'.toArray) (hv:Vals ys its') (hz:ys.length≤sizeLine):
  Inv X pins σ (upd H l (.lst ys)) {s with heap:=s.heap.update l (Obj.mapSeq f),toks:=t'}:=by
 have q:=PySem.IsL.update e f
 rw [hf] at q
 refine I.write (x:=l) (e:=l) (by rw [hH];exact trivial) (.inl rfl) (fun b' u hb hu=>(Heap.get?_update_other s.heap (Obj.mapSeq f) (Ne.symm hb)).trans hu) ⟨_,q⟩ ?_
 exact ⟨hz,its',_,hv,q⟩
theorem Inv.lnew {its:List Value} {t':Nat} (I:Inv X pins σ H s) (hv:Vals ys its) (hz:ys.length≤sizeLine):
  Inv X pins σ (upd H s.heap.objs.size (.lst ys)) {s with heap:=s.heap.push {cls:= .type "list",data:= .seq its.toArray},toks:=t'}:=
 I.laid (fun _ _ q=>Heap.get?_push_of_some _ q) (Nat.le_refl _) ⟨hz,its,0,hv,Heap.get?_push_size _ rfl⟩
theorem Inv.fresh (I:Inv X pins σ H s):H s.heap.objs.size=none:=I.hok.fresh (Nat.le_refl _)
theorem Inv.kx (I:Inv X pins σ H s) (hH:H l=some (.lst xs)):xs.length≤sizeLine∧∃(its:List Value) (n:Nat),Vals xs its∧xs.length=its.length∧s.heap.get? l=some {cls:= .type "list",data:= .seq its.toArray n}:=by
 obtain ⟨z,its,n,r,e⟩:=I.hok l _ hH
 exact ⟨z,its,n,r,r.length,e⟩
end
section
variable {X:Cx}
def kh:V→List V→Hp→VK→Prop:=fun x vs H Q=> ∃l xs y,x = .ref l∧vs= [y]∧H l=some (.lst xs)∧xs.length<sizeLine∧Q .non (upd H l (.lst (xs++ [y])))
theorem il:o5 X "list.append" kh:=by
 intro pins s σ H x vs v us Q I rx rv h
 obtain ⟨l,xs,y,rfl,rfl,hH,hz,q⟩:=h
 cases rx
 obtain ⟨u,rfl,ru⟩:=rv.one
 obtain ⟨z,its,n,r,hl,e⟩:=I.kx hH
 refine call_meets F.slot_list_append ⟨_,e,rfl⟩ F.entry_list_append (F.args_list_append_2 _ _) (PySem.list_append l its.toArray n u (by rw [List.size_toArray];omega)) ⟨e,?_⟩
 refine ⟨.non,_,I.lset (its':=its++ [u]) hH e (by simp) (r.append (.cons ru .nil)) ?_,rfl,q⟩
 rw [List.length_append,List.length_singleton]
 omega
def lV:V→List V→Hp→VK→Prop:=fun x vs H Q=> ∃l xs,x = .ref l∧vs= []∧H l=some (.lst xs)∧Q .non (upd H l (.lst []))
theorem jj:o5 X "list.clear" lV:=by
 intro pins s σ H x vs v us Q I rx rv h
 obtain ⟨l,xs,rfl,rfl,hH,q⟩:=h
 cases rx
 have hus:=rv.zero
 subst hus
 obtain ⟨z,its,n,r,hl,e⟩:=I.kx hH
 refine call_meets F.slot_list_clear ⟨_,e,rfl⟩ F.entry_list_clear (F.args_list_clear_1 _) (AutoSeq1.list_clear_list_0 l its.toArray n (by rw [List.size_toArray];omega)) ⟨e,?_⟩
 exact ⟨.non,_,I.lset (its':=[]) (ys:=[]) hH e rfl .nil (Nat.zero_le _),rfl,q⟩
def nK:R2:=fun x y H Q=> ∃l b xs zs,x = .ref l∧y = .ref b∧H l=some (.lst xs)∧H b=some (.lst zs)∧xs.length+zs.length≤sizeLine∧∀p,H p=none→Q (.ref p) (upd H p (.lst (xs++zs)))
theorem l_:cf X (binaryOp .Add) nK:=by
 intro pins s σ H x y v u Q I rx ry h
 obtain ⟨l,b,xs,zs,rfl,rfl,hH,hB,hz,q⟩:=h
 cases rx
 cases ry
 obtain ⟨z,its,n,r,hl,e⟩:=I.kx hH
 obtain ⟨z2,its2,n2,r2,hl2,e2⟩:=I.kx hB
 refine PySem.P.add_list e e2 ?_ (by rw [List.size_toArray,List.size_toArray];omega)
 have ea:its.toArray++its2.toArray=(its++its2).toArray:=by simp
 rw [ea]
 exact ⟨.ref _,_,I.lnew (t':=s.toks) (r.append r2) (by rw [List.length_append];omega),rfl,q _ I.fresh⟩
end
section
variable {prog:Program} {w:World} {A:Around} {E:Value→Shared→Prop} {s:Shared}
end
section
variable {X:Cx}
end
end L2
namespace Att
open PySem PySem.W PySem.Calls PyProof.Rows
theorem c0 {P:Params} {h:Heap}: ∀(ns:List Int) (vs:List Value),WellAll P h vs (ns.map WData.int)→IntsAre vs ns:=by
 intro ns
 induction ns with
 |nil=>
  intro vs w
  rw [List.map_nil] at w
  cases w
  exact .nil
 |cons n ns ih=>
  intro vs w
  rw [List.map_cons] at w
  cases w with
  |cons a b=>
   cases a
   exact .cons _ _ (ih _ b)
theorem g7 {l:OpenLaw} {n:Nat} (hn:l.most=some n) {P:Params} {h:Heap} {args:List WData} {vals:List Value}
  (hpre:l.row.toRowW.claim.pre args=true) (hwl:WellAll P h vals args):
  ∃a vs ns,vals= [Value.ref a]∧args= [WData.list (ns.map WData.int)]∧h.get? a=some {cls:= .type "list",data:= .seq vs.toArray}∧IntsAre vs ns∧ns.length≤n:=by
 have hsh:WShape.hasAll [] args [.list .int]=true:=(pre_splitW hpre).1
 have hc:l.pre.holds [] {args:=args}=true:=(pre_splitW hpre).2
 obtain ⟨d,r,rfl,h1,h2⟩:=hasAllW_cons hsh
 obtain rfl:=hasAllW_nil h2
 obtain ⟨xs,rfl,h3⟩:=hasW_list h1
 obtain ⟨ns,rfl⟩:=items_int h3
 have hlen:ns.length≤n:=by
  unfold OpenLaw.pre at hc
  have h4:(WTm.not (.lt (.lit (.int (n:Int))) (.len (.arg 0)))).holds [] {args:=[.list (ns.map .int)]}=true:=by
   have h4:=(holds_andW hc).1
   rw [hn] at h4
   exact h4
  have h5:=condW_of h4 (w_not (w_lt w_lit (w_len_list (w_arg rfl))))
  rw [List.length_map] at h5
  refine Nat.le_of_not_lt fun q=>?_
  have q':(n:Int)<((ns.length:Nat):Int):=by omega
  first
   |(rw [decide_eq_true q'] at h5;exact absurd h5 (by decide))
   |(simp at h5;omega)
 cases hwl with
 |cons w1 w2=>
  cases w2
  cases w1 with
  |list ho hall=>exact ⟨_,_,ns,rfl,rfl,ho,c0 ns _ hall,hlen⟩
theorem ic (l:OpenLaw) (args:List WData):l.row.toRowW.claim.post args (.bool true) args=true:=
 postW_of (r:=l.row.toRowW) (X:=(true == true))
  (show WShape.has [] (.bool true) .bool=true by first|rfl|decide|simp [WShape.has,WShape.arms,WShape.armsAll])
  (show (WTm.eq .res (.lit (.bool true))).value [] {args:=args,res:=some (.bool true),after:=args}=some (.bool (true == true)) from w_eq_bool (w_res rfl) w_lit) rfl
theorem fq {l:OpenLaw} {n:Nat} {q:Program} {loose:List Str} {XP:(Str→Option Value)→Heap→Prop} {YP:World→Heap→Prop} {d:DefRec}
  (hn:l.most=some n) (hdf:d.params.defaults= [])
  (
   call: ∀(w:World) (s₀ s₁:Shared) (mg mb:Str→Option Value) (fa:Addr) (o:Obj) (pm cd doc:Value) (a:Addr) (vs:List Value) (ns:List Int),
   Ground q loose [] XP w s₀ mg mb s₁.heap→YP w s₁.heap→
   s₁.heap.get? fa=some o→o.data = .func (docDef d.name d.params d.body d.scope pm cd doc)→s₁.heap.CodeRec cd d.name→mg d.name=some (.ref fa)→
   s₁.heap.get? a=some {cls:= .type "list",data:= .seq vs.toArray}→IntsAre vs ns→ns.length≤n→s₁.gens = #[]→
   codeAny (model l.prog w) callerA (.call (.ref fa) ⟨[.ref a],[]⟩) (fun r s'=>r = .ok (.ret (.bool true))∧OldK s₁.heap s'.heap∧s'.os=s₁.os∧AllBare s'.gens) s₁):
  WalkO q loose XP YP l.row.toRowW d [] (fun f vs=>PySem.call f vs):=by
 intro w s₀ s₁ mg mb G Y fa o pm cd doc dV kV ho hd hcd hD hmg hg args vals as hpre hlay hrd hwl hlo
 obtain rfl:dV = .none:=Dflts.none hD hdf
 obtain rfl:kV = .none:=Dflts.noKw hD
 obtain ⟨a,vs,ns,rfl,rfl,hobj,hints,hlen⟩:=g7 hn hpre hwl
 refine enter_call (codeAny_mono (call w s₀ s₁ mg mb fa o pm cd doc a vs ns G Y ho (fd_plain hd) hcd hmg hobj hints hlen hg) fun r s' hq=>?_)
 obtain ⟨rfl,h2,h3,h4⟩:=hq
 exact ⟨.inl ⟨.bool true,.bool true,[],rfl,fun _=>rfl,.bool true,ic l _,fun _=>⟨List.Pairwise.nil,fun _ hm=>(nomatch hm)⟩⟩,h2,h3,h4⟩
section
variable {prog:Program} {w:World} {A:Around} {E:Value→Shared→Prop} {s:Shared} {K:Frag}
end
end Att
namespace L2
open PySem PySem.Spec PyProof.Rows
theorem dO: ∀{vs:List Value} {ns:List Int},IntsAre vs ns→Vals (ns.map V.int) vs
 |_,_,.nil=> .nil
 |_,_,.cons n t h=> .cons ⟨t,rfl⟩ (dO h)
end L2
namespace L2
open PySem PySem.Spec PyProof.Rows
noncomputable def aJ (s:Stmt):Arguments:=match s with
 | .FunctionDef _ a _ _ _ _ _ _ _ _=>a
 |_=>{posonlyargs:=[],args:=[],vararg:=none,kwonlyargs:=[],kw_defaults:=[],kwarg:=none,defaults:=[]}
noncomputable def aw (s:Stmt):List Stmt:=match s with
 | .FunctionDef _ _ b _ _ _ _ _ _ _=>b
 |_=>[]
noncomputable def ae (s:Stmt):Scope:=match s with
 | .FunctionDef _ _ _ _ _ _ sc _ _ _=>sc
 |_=>{kind:= .function,names:=[],isGenerator:=false,isCoroutine:=false}
abbrev oo:cB:=fun _ _ _ _ _ _=>False
abbrev E0:XK:=fun _ _ _=>False
theorem nO {X:Cx}:Passes oo X E0:=fun _ _ _ _ _ _ _ h=>h.elim
structure lr (K:PySem.W.Frag) (x qual:Str) (st:Stmt) (f:Addr) (fd:FuncData):Prop where
 ex: ∃(oc:Value) (od:Option Addr) (kV doc pm:Value) (an:Option Addr) (cdv ct:Value) (osl:Array (Option Value)),
  fd=PySem.W.fnOf x qual (aJ st) (aw st) (ae st) .none kV doc pm an cdv ct∧K.lookup f=some ⟨oc,od,.func fd,osl⟩∧PySem.W.codeIn K cdv qual=true
 kp:PySem.W.keepIn K (.ref f)=true
section
variable {P:Program} {w:World} {K:PySem.W.Frag} {mg:Str→Option Value} {base:Heap}
theorem lr.binds {x qual:Str} {st:Stmt} {f:Addr} {fd:FuncData} {ps:List Str} (F:lr K x qual st f fd)
  (h: ∀(kV doc pm:Value) (an:Option Addr) (cdv ct:Value) (us:List Value),us.length=ps.length→bindArgs (PySem.W.fnOf x qual (aJ st) (aw st) (ae st) .none kV doc pm an cdv ct) ⟨us,[]⟩=pure (ps.zip us)):Binds K fd ps []:=by
 obtain ⟨oc,od,kV,doc,pm,an,cdv,ct,osl,rfl,lk,hcd⟩:=F.ex
 exact .all (h kV doc pm an cdv ct)
theorem mH {x qual:Str} {st:Stmt} {f:Addr} {oc:Value} {od an:Option Addr} {osl:Array (Option Value)} {kV doc pm cdv ct:Value} (l:K.lookup f=some ⟨oc,od,.func (PySem.W.fnOf x qual (aJ st) (aw st) (ae st) .none kV doc pm an cdv ct),osl⟩)
  (c:PySem.W.codeIn K cdv qual=true) (k:PySem.W.keepIn K (.ref f)=true):lr K x qual st f (PySem.W.fnOf x qual (aJ st) (aw st) (ae st) .none kV doc pm an cdv ct):=⟨⟨oc,od,kV,doc,pm,an,cdv,ct,osl,rfl,l,c⟩,k⟩
end
section
variable {X:Cx}
theorem pv (i:Nat) {x:Str} {pos:Pos} (hN:X.N[i]?=some x:=by rfl) (hv:m3 X.env.scope x:=by first|exact Or.inl rfl|exact Or.inr (Or.inl rfl)|exact Or.inr (Or.inr rfl)) (hd:(x == ("__debug__" : Str))=false:=by decide)
  (hcd:(x == ("__classdict__" : Str))=false:=by decide):PE X (.Name x pos) (gX i):=dq hN hv hd hcd
end
def aC (H H':Hp):Prop:= ∀b o,H b=some o→H' b=some o
theorem aC.refl (H:Hp):aC H H:=fun _ _ h=>h
theorem aC.trans {H H1 H2:Hp} (a:aC H H1) (b:aC H1 H2):aC H H2:=fun c o h=>b c o (a c o h)
section
variable {κ:Type} [DecidableEq κ]
end
section
variable {P:Program} {w:World} {H:Hp} {h:Heap} {a:Addr}
end
section
variable {X:Cx} {pins:List (Addr×Obj)} {σ:St} {H:Hp} {s:Shared} {a:Addr} {y v:V} {u r:Value} {o:Option V} {A:Around} {E:Value→Shared→Prop}
end
section
variable {X:Cx} {pins:List (Addr×Obj)} {σ:St} {H:Hp} {s:Shared} {a:Addr} {kvs:List (Key×V)} {k:Key} {u:Value} {A:Around} {E:Value→Shared→Prop}
end
section
variable {X:Cx} {o i e value:Expr} {pos pos' tpos:Pos} {td ty tv:TE}
end
section
variable {X:Cx} {pos:Pos}
end
section
variable {X:Cx} {pins:List (Addr×Obj)} {σ:St} {H:Hp} {s:Shared} {a:Addr} {y d:V} {u r:Value} {o:Option V} {A:Around} {E:Value→Shared→Prop}
end
section
variable {X:Cx} {o e f:Expr} {apos cpos:Pos} {td ty tx:TE}
end
section
variable {X:Cx} {pins:List (Addr×Obj)} {σ:St} {H:Hp} {s:Shared} {a:Addr} {kvs:List (Key×V)} {A:Around} {E:Value→Shared→Prop}
end
section
variable {X:Cx} {pins:List (Addr×Obj)} {σ:St} {H:Hp} {s:Shared} {a:Addr} {y:V} {u:Value} {A:Around} {E:Value→Shared→Prop}
end
section
variable {X:Cx}
end
section
variable {κ:Type} [DecidableEq κ]
end
def FnAt (P:Program) (w:World) (K:PySem.W.Frag) (mg:Str→Option Value) (base:Heap) (CX:cB) (x:Str) (k:Nat) (ps:List Str) (sp:Sp):Prop:=
 ∃f fd,eR P w K mg base CX k f fd ps sp∧mg x=some (.ref f)∧PySem.W.keepIn K (.ref f)=true∧Binds K fd ps []∧∃oc od osl,K.lookup f=some ⟨oc,od,.func fd,osl⟩
def bh (K:PySem.W.Frag) (mg:Str→Option Value) (x:Str) (st:Stmt):Prop:= ∃f fd,lr K x x st f fd∧mg x=some (.ref f)
class Quiet (CX:cB):Prop where
 pass: ∀(X:Cx),Passes CX X E0
noncomputable instance:Quiet oo:=⟨fun _=>nO⟩
theorem jw {K:PySem.W.Frag} {h:Heap} {mg:Str→Option Value} {x:Str} {st:Stmt} {f:Addr} {oc:Value} {od an:Option Addr} {osl:Array (Option Value)} {kV doc pm cdv ct:Value} (X:K.In h) (G:h.Ns mainGlobals mg)
  (a:PySem.W.nsIn K mainGlobals x=some (some (.ref f)))
  (l:K.lookup f=some ⟨oc,od,.func (PySem.W.fnOf x x (aJ st) (aw st) (ae st) .none kV doc pm an cdv ct),osl⟩) (c:PySem.W.codeIn K cdv x=true) (k:PySem.W.keepIn K (.ref f)=true):bh K mg x st:=
 ⟨f,_,mH l c k,PySem.W.mg_of X G a⟩
section
variable {P:Program} {w:World} {K:PySem.W.Frag} {mg:Str→Option Value} {base:Heap} {CX:cB}
theorem bh.fn {x:Str} {st:Stmt} {N ps:List Str} {k:Nat} {sp:Sp} (F:bh K mg x st) (S:aG N ps (ae st))
  (hb: ∀(kV doc pm:Value) (an:Option Addr) (cdv ct:Value) (us:List Value),us.length=ps.length→bindArgs (PySem.W.fnOf x x (aJ st) (aw st) (ae st) .none kV doc pm an cdv ct) ⟨us,[]⟩=pure (ps.zip us))
  (len: ∀vs H Q E,sp vs H Q E→vs.length=ps.length)
  (
   hbody: ∀(f:Addr) (cdv:Value) (A:Around) (outer:List Env) (s:Shared) (H:Hp) (vs:List V) (Q:VK) (E:XK),bb k (A.deeper (envOfC x (ae st) s.heap.objs.size f cdv))→sp vs H Q E→
   ∃t,fx (aT CX P w K mg base N x (ae st) f cdv A outer s H E).nox (aw st) t∧t {nx:=fun _ H'=>Q .non H',rt:=Q} (start N vs) H):FnAt P w K mg base CX x (k+1) ps sp:=by
 obtain ⟨f,fd,F,hm⟩:=F
 have bd:=F.binds hb
 have kp:=F.kp
 obtain ⟨oc,od,kV,doc,pm,an,cdv,ct,osl,rfl,lk,hcd⟩:=F.ex
 refine ⟨f,_,n4 lk hcd S len fun A outer s H vs Q E hr hsp=>?_,hm,kp,bd,oc,od,osl,lk⟩
 obtain ⟨t,h,q⟩:=hbody f cdv A outer s H vs Q E hr hsp
 exact ⟨t,h.nox,q⟩
end
section
variable {X:Cx} {CX:cB} {k n:Nat} {ps:List Str} {sp:Sp} {x:Str} {p pos:Pos} {e:Expr} {es:List Expr} {t:TA}
theorem nL [Quiet CX] (G:FnAt X.prog X.w X.K X.mg X.base CX x k ps sp) (hr:bb n X.A) (hk:k≤n) (hg:Gl X x) (ha:PA X (e::es) t)
  (hdb:(x == ("__debug__" : Str))=false:=by decide) (he:starEach (e::es) X.env=(false,eval e X.env)::starEach es X.env:=by rfl) (hpl:(backTo pos (starEach es X.env)).any (·.1)=false:=by rfl):
  PE X (.Call (.Name x p) (e::es) [] pos) (dR sp [] E0 t):=by
 obtain ⟨f,fd,F,hm,kp,b,_⟩:=G
 exact km F (hr.mono hk) hg hm kp b .nil (Quiet.pass X) ha hdb he hpl
end
noncomputable def oj (lo c:Int) (n:Nat):It:=⟨fun i _=>i<n,fun i H x H'=>H'=H∧x = .int (lo+i*c),fun i _=>n≤i⟩
noncomputable def rcount (lo hi c:Int):Nat:=(Builtin.Range.rangeSize lo hi c).toNat
section
variable {X:Cx} {tg:Expr}
end
section
variable {g:Int→Int→V} {C:Int→Int→Prop} {i j:Int} {H:Hp} {Q:VK}
theorem kb:lS g (.int i) (.int j) H Q=Q (g i j) H:=by
 apply propext
 constructor
 ·
  rintro ⟨a,b,e1,e2,q⟩
  cases e1;cases e2;exact q
 ·intro q;exact ⟨i,j,rfl,rfl,q⟩
theorem lR:rI C g (.int i) (.int j) H Q=(C i j∧Q (g i j) H):=by
 apply propext
 constructor
 ·
  rintro ⟨a,b,e1,e2,q⟩
  cases e1;cases e2;exact q
 ·intro q;exact ⟨i,j,rfl,rfl,q⟩
theorem lL {f:Int→V}:rU f (.int i) H Q=Q (f i) H:=by
 apply propext
 constructor
 ·
  rintro ⟨a,e1,q⟩
  cases e1;exact q
 ·intro q;exact ⟨i,rfl,q⟩
theorem n9 {b:Bool} {P:Bool→Prop}:(∃k,V.bl b = .bl k∧P k)=P b:=by
 apply propext
 constructor
 ·
  rintro ⟨k,e,q⟩
  cases e;exact q
 ·intro q;exact ⟨b,rfl,q⟩
theorem n6 {v:V} {P:V→Prop}:(∃u,some (some v)=some (some u)∧P u)=P v:=by
 apply propext
 constructor
 ·
  rintro ⟨k,e,q⟩
  cases e;exact q
 ·intro q;exact ⟨v,rfl,q⟩
theorem ef:lU (.int i) (.int j) H Q=Q (.bl (decide (i=j))) H:=by
 have e:decide (V.int i=V.int j)=decide (i=j):=by
  by_cases h:i=j
  ·subst h;simp
  ·rw [decide_eq_false h,decide_eq_false (fun q=>h (V.int.inj q))]
 unfold lU
 rw [e]
 apply propext
 exact ⟨fun h=>h.2,fun h=>⟨rfl,h⟩⟩
theorem ed:lM (.int i) (.int j) H Q=Q (.bl (!decide (i=j))) H:=by
 have e:decide (V.int i=V.int j)=decide (i=j):=by
  by_cases h:i=j
  ·subst h;simp
  ·rw [decide_eq_false h,decide_eq_false (fun q=>h (V.int.inj q))]
 unfold lM
 rw [e]
 apply propext
 exact ⟨fun h=>h.2,fun h=>⟨rfl,h⟩⟩
theorem ee {a b:Str}:lU (.str a) (.str b) H Q=Q (.bl (decide (a=b))) H:=by
 have e:decide (V.str a=V.str b)=decide (a=b):=by
  by_cases h:a=b
  ·subst h;simp
  ·rw [decide_eq_false h,decide_eq_false (fun q=>h (V.str.inj q))]
 unfold lU
 rw [e]
 apply propext
 exact ⟨fun h=>h.2,fun h=>⟨rfl,h⟩⟩
theorem d_ {a b:Str}:lM (.str a) (.str b) H Q=Q (.bl (!decide (a=b))) H:=by
 have e:decide (V.str a=V.str b)=decide (a=b):=by
  by_cases h:a=b
  ·subst h;simp
  ·rw [decide_eq_false h,decide_eq_false (fun q=>h (V.str.inj q))]
 unfold lM
 rw [e]
 apply propext
 exact ⟨fun h=>h.2,fun h=>⟨rfl,h⟩⟩
theorem fS {a b:Bool}:lU (.bl a) (.bl b) H Q=Q (.bl (decide (a=b))) H:=by
 have e:decide (V.bl a=V.bl b)=decide (a=b):=by
  by_cases h:a=b
  ·subst h;simp
  ·rw [decide_eq_false h,decide_eq_false (fun q=>h (V.bl.inj q))]
 unfold lU
 rw [e]
 apply propext
 exact ⟨fun h=>h.2,fun h=>⟨rfl,h⟩⟩
theorem fK {a b:Bool}:lM (.bl a) (.bl b) H Q=Q (.bl (!decide (a=b))) H:=by
 have e:decide (V.bl a=V.bl b)=decide (a=b):=by
  by_cases h:a=b
  ·subst h;simp
  ·rw [decide_eq_false h,decide_eq_false (fun q=>h (V.bl.inj q))]
 unfold lM
 rw [e]
 apply propext
 exact ⟨fun h=>h.2,fun h=>⟨rfl,h⟩⟩
end
theorem cf.imp {X:Cx} {f:Value→Value→Sem Value} {r r':R2} (h:cf X f r) (i: ∀x y H Q,r' x y H Q→r x y H Q):cf X f r':=
 fun pins s σ H x y v u Q I rx ry q=>h pins s σ H x y v u Q I rx ry (i _ _ _ _ q)
theorem aK.imp {X:Cx} {f:Value} {r r':List V→Hp→VK→Prop} (h:aK X f r) (i: ∀xs H Q,r' xs H Q→r xs H Q):aK X f r':=
 fun pins s σ H xs us Q I rs q=>h pins s σ H xs us Q I rs (i _ _ _ q)
def fb (K:PySem.W.Frag):R2:=fun x y H Q=>match x,y with
 | .int i,.int j=>Q (.int (i+j)) H
 | .str a,.str b=>a.length+b.length≤sizeLine∧Q (.str (a++b)) H
 | .ref l,.ref b=>nK (.ref l) (.ref b) H Q∨lh K (.ref l) (.ref b) H Q
 |_,_=>False
section
variable {X:Cx}
theorem ku:cf X (binaryOp .Add) (fb X.K):=by
 refine cf.imp (ma.or (fU.or (l_.or kr))) fun x y H Q h=>?_
 unfold fb at h
 split at h
 ·exact .inl ⟨_,_,rfl,rfl,h⟩
 ·exact .inr (.inl ⟨_,_,rfl,rfl,h⟩)
 ·exact .inr (.inr h)
 ·exact h.elim
def kY (i j:Int):Prop:=(0≤j∧j≤1000000)∧-(2 ^ 512)<i∧i<2 ^ 512
theorem kY.bits {i j:Int} (h:kY i j):(Builtin.Int.intBits i:Int)+j≤2 ^ 27:=by
 have hb:Builtin.Int.intBits i≤512:=by
  unfold Builtin.Int.intBits
  split
  ·omega
  ·
   rename_i hz
   have hz':i≠0:=fun q=>hz (by rw [q];rfl)
   have:i.natAbs.log2<512:=(Nat.log2_lt (by omega)).mpr (by have:=h.2;omega)
   omega
 have:=h.1.2
 omega
theorem ko:cf X (binaryOp .LShift) (rI kY fun i j=> .int (i*2 ^ j.toNat)):=mZ fun _ _ _ _ _ _ _ hc q=>lshift_int hc.1.1 hc.bits q
end
def lu (i j:Int):Prop:=(0≤j∧j≤1000000)∧-(2 ^ 64)<i∧i<2 ^ 64
theorem kq {X:Cx}:cf X (binaryOp .Pow) (rI lu fun i j=> .int (i ^ j.toNat)):=mZ fun _ _ _ _ _ _ _ hc q=>pow_int_small hc.1.1 hc.1.2 (by have:=hc.2;omega) q
def e6 (K:PySem.W.Frag):List V→Hp→VK→Prop:=fun xs H Q=>match xs with
 | [.str z]=>z.length≤sizeLine∧Q (.int z.length) H
 | [.ref p]=> ∃ys,(aF K H p ys∨bV K H p ys)∧Q (.int ys.length) H
 |_=>False
section
variable {X:Cx}
theorem iH:aK X (.builtin "len") (e6 X.K):=by
 refine aK.imp (eL.or eK) fun xs H Q h=>?_
 unfold e6 at h
 split at h
 ·exact .inr ⟨_,rfl,h.1,h.2⟩
 ·
  obtain ⟨ys,h1,h2⟩:=h
  exact .inl ⟨_,ys,rfl,h1,h2⟩
 ·exact h.elim
def nA:List V→Hp→VK→Prop:=fun xs H Q=>match xs with
 | [.int i,.int j]=>Q (.int (if j<i then j else i)) H
 |_=>False
def nC:List V→Hp→VK→Prop:=fun xs H Q=>match xs with
 | [.int i,.int j]=>Q (.int (if i<j then j else i)) H
 |_=>False
noncomputable def nW:V→String→Option Bool
 | .int _,"int" =>some true
 | .int _,"bool" =>some false
 | .int _,"str" =>some false
 | .bl _,"int" =>some true
 | .bl _,"bool" =>some true
 | .str _,"str" =>some true
 | .str _,"int" =>some false
 |_,_=>none
def cY (K:PySem.W.Frag):List V→Hp→VK→Prop:=fun xs H Q=>match xs with
 | [x,.ty T]=>(match nW x T with
  |some b=>Q (.bl b) H
  |none=> ∃t b,cO K H x t∧PySem.W.kitOne K t (.type T)=some b∧Q (.bl b) H)
 |_=>False
theorem ml (K:PySem.W.Frag):PySem.W.kitOne K (.type "int") (.type "int")=some true:=by first|rfl|kernel_rfl
theorem mm (K:PySem.W.Frag):PySem.W.kitOne K (.type "int") (.type "bool")=some false:=by first|rfl|kernel_rfl
theorem kit_is (K:PySem.W.Frag):PySem.W.kitOne K (.type "int") (.type "str")=some false:=by first|rfl|kernel_rfl
theorem mn (K:PySem.W.Frag):PySem.W.kitOne K (.type "bool") (.type "int")=some true:=by first|rfl|kernel_rfl
theorem mq (K:PySem.W.Frag):PySem.W.kitOne K (.type "bool") (.type "bool")=some true:=by first|rfl|kernel_rfl
theorem mh (K:PySem.W.Frag):PySem.W.kitOne K (.type "str") (.type "str")=some true:=by first|rfl|kernel_rfl
theorem mi (K:PySem.W.Frag):PySem.W.kitOne K (.type "str") (.type "int")=some false:=by first|rfl|kernel_rfl
theorem mj (K:PySem.W.Frag):PySem.W.kitOne K (.type "list") (.type "list")=some true:=by first|rfl|kernel_rfl
theorem mf (K:PySem.W.Frag):PySem.W.kitOne K (.type "tuple") (.type "tuple")=some true:=by first|rfl|kernel_rfl
theorem jC:aK X (.builtin "isinstance") (cY X.K):=by
 intro pins s σ H xs us Q I rs q
 unfold cY at q
 split at q
 ·
  rename_i x T
  obtain ⟨u,c,rfl,ru,rc⟩:=vals2 rs
  obtain rfl:c=Value.type T:=rc
  have key: ∀{t b},cO X.K H x t→PySem.W.kitOne X.K t (.type T)=some b→Q (.bl b) H→wpAny (model X.prog X.w) X.A (call (.builtin "isinstance") [u,.type T]) (EP X pins σ Q) X.xe s:=fun {t b} ty e h=>
   iw I ru ty e fun tk=>⟨.bl b,H,I.tok tk,rfl,h⟩
  split at q
  ·
   rename_i b e
   have h:=q
   unfold nW at e
   split at e<;>cases e
   ·exact key (.int _) (ml _) h
   ·exact key (.int _) (mm _) h
   ·exact key (.int _) (kit_is _) h
   ·exact key (.bl _) (mn _) h
   ·exact key (.bl _) (mq _) h
   ·exact key (.str _) (mh _) h
   ·exact key (.str _) (mi _) h
  ·
   obtain ⟨t,b,ty,e,h⟩:=q
   exact key ty e h
 ·exact q.elim
theorem gx {x:Str} {T:String} {pos:Pos} (hg:Gl X x) (hm:X.mg x=none) (hv:bootBuiltins x=some (.type T)) (hn:x≠ "__name__" :=by decide) (hd:(x == ("__debug__" : Str))=false:=by decide):PE X (.Name x pos) (tC (.ty T)):=
 kn hg hm hv rfl hn hd
end
theorem cA:bootBuiltins "len" = some (.builtin "len"):=by decide+kernel
theorem mU:bootBuiltins "all" = some (.builtin "all"):=by decide+kernel
theorem ba:bootBuiltins "isinstance" = some (.builtin "isinstance"):=by decide+kernel
theorem mT:bootBuiltins "int" = some (.type "int"):=by decide+kernel
theorem kT:bootBuiltins "bool" = some (.type "bool"):=by decide+kernel
theorem c9:bootBuiltins "list" = some (.type "list"):=by decide+kernel
theorem jE:bootBuiltins "tuple" = some (.type "tuple"):=by decide+kernel
section
variable {K:PySem.W.Frag} {H:Hp} {Q:VK}
theorem ia {i j:Int}:fb K (.int i) (.int j) H Q=Q (.int (i+j)) H:=rfl
theorem h_ {i j:Str}:fb K (.str i) (.str j) H Q=(i.length+j.length≤sizeLine∧Q (.str (i++j)) H):=rfl
theorem hV {z:Str}:e6 K [.str z] H Q=(z.length≤sizeLine∧Q (.int z.length) H):=rfl
theorem hW {p:Addr}:e6 K [.ref p] H Q=(∃ys,(aF K H p ys∨bV K H p ys)∧Q (.int ys.length) H):=rfl
theorem j4 {i:Int}:cY K [.int i,.ty "int"] H Q=Q (.bl true) H:=rfl
theorem j5 {i:Int}:cY K [.int i,.ty "bool"] H Q=Q (.bl false) H:=rfl
theorem j3 {i:Int}:cY K [.int i,.ty "str"] H Q=Q (.bl false) H:=rfl
theorem j6 {i:Bool}:cY K [.bl i,.ty "int"] H Q=Q (.bl true) H:=rfl
theorem j7 {i:Bool}:cY K [.bl i,.ty "bool"] H Q=Q (.bl true) H:=rfl
theorem j1 {i:Str}:cY K [.str i,.ty "str"] H Q=Q (.bl true) H:=rfl
theorem j2 {i:Str}:cY K [.str i,.ty "int"] H Q=Q (.bl false) H:=rfl
theorem hJ {i j:Int}:nA [.int i,.int j] H Q=Q (.int (if j<i then j else i)) H:=rfl
theorem hU {i j:Int}:nC [.int i,.int j] H Q=Q (.int (if i<j then j else i)) H:=rfl
end
theorem mP {CX:cB} {P:Program} {w:World} {K:PySem.W.Frag} {mg:Str→Option Value} {base:Heap} {N:List Str} {qual:Str} {scope:Scope} {f:Addr} {cd:Value} {A:Around} {outer:List Env} {s:Shared} {H:Hp} {E:XK}:
  (aT CX P w K mg base N qual scope f cd A outer s H E).K=K:=rfl
section
variable {ta:TA} {tl:TE} {K:PySem.W.Frag} {g:TG} {tb:TS} {D:Ends} {σ:St} {H:Hp}
end
noncomputable def Cx.comp (X:Cx) (scope:Scope) (cl:List (Str×Addr)) (C:Addr) (N:List Str) (s:Shared) (H:Hp) (ex:List Addr):Cx:=
 {prog:=X.prog,w:=X.w,K:=X.K,mg:=X.mg,base:=X.base,A:=X.A,N:=N,s₀:=s,H₀:=H,env:=compEnvC scope cl C X.env,outer:=X.stack,stack:=X.stack,ex:=ex,fn:=fun _=>false,calm:=X.calm,pn:=[],xe:=fun _ _=>False}
theorem dB {env:Env} {scope:Scope} (h: ∀y∈scope.names,y.2 = .free→∃c,env.cells.lookup y.1=some c):
  ∃cl,closureFor scope env=pure cl∧(∀y c,cl.lookup y=some c→env.cells.lookup y=some c)∧∀y∈scope.names,y.2 = .free→∃c,cl.lookup y.1=some c:=by
 have key: ∀(l:List (Str×NameKind)) (acc:List (Str×Addr)),(∀y∈l,y.2 = .free→∃c,env.cells.lookup y.1=some c)→(∀y c,acc.lookup y=some c→env.cells.lookup y=some c)→
   ∃cl,(forIn l acc fun (x:Str×NameKind) (cs:List (Str×Addr))=>if (x.2 == NameKind.free)=true then do let a←cellOf env x.1;pure (ForInStep.yield ((x.1,a)::cs)) else pure (ForInStep.yield cs))=(pure cl:Sem (List (Str×Addr)))∧
    (∀y c,cl.lookup y=some c→env.cells.lookup y=some c)∧(∀y c,acc.lookup y=some c→∃c,cl.lookup y=some c)∧∀y∈l,y.2 = .free→∃c,cl.lookup y.1=some c:=by
  intro l
  induction l with
  |nil=>intro acc _ ha;exact ⟨acc,rfl,ha,fun y c e=>⟨c,e⟩,fun y hy=>nomatch hy⟩
  |cons x r ih=>
   intro acc hl ha
   obtain ⟨n,k⟩:=x
   by_cases hk:k = .free
   ·
    subst hk
    obtain ⟨c,hc⟩:=hl (n,.free) List.mem_cons_self rfl
    have ha': ∀y d,((n,c)::acc).lookup y=some d→env.cells.lookup y=some d:=fun y d e=>by
     simp only [List.lookup_cons] at e
     cases q:y == n with
     |true=>rw [q] at e;cases e;rw [beq_iff_eq.mp q];exact hc
     |false=>rw [q] at e;exact ha y d e
    obtain ⟨cl,e,h1,h2,h3⟩:=ih ((n,c)::acc) (fun y hy=>hl y (List.mem_cons_of_mem _ hy)) ha'
    have top: ∃d,cl.lookup n=some d:=h2 n c (by simp [List.lookup_cons])
    refine ⟨cl,?_,h1,fun y d q=>?_,fun y hy hf=>?_⟩
    ·
     rw [List.forIn_cons]
     have ec:cellOf env n=pure c:=by unfold cellOf;rw [hc]
     show ((if (NameKind.free == NameKind.free)=true then (do let a←cellOf env n;pure (ForInStep.yield ((n,a)::acc))) else _) >>= _)=_
     rw [if_pos (by decide),ec]
     exact e
    ·
     cases z:y == n with
     |true=>rw [beq_iff_eq.mp z];exact top
     |false=>exact h2 y d (by simp only [List.lookup_cons,z];exact q)
    ·
     rcases List.mem_cons.mp hy with rfl|hy
     ·exact top
     ·exact h3 y hy hf
   ·
    have hb:(k == NameKind.free)=false:=by simpa using hk
    obtain ⟨cl,e,h1,h2,h3⟩:=ih acc (fun y hy=>hl y (List.mem_cons_of_mem _ hy)) ha
    refine ⟨cl,?_,h1,h2,fun y hy hf=>?_⟩
    ·
     rw [List.forIn_cons]
     show ((if (k == NameKind.free)=true then _ else pure (ForInStep.yield acc)) >>= _)=_
     rw [hb,if_neg Bool.false_ne_true]
     exact e
    ·
     rcases List.mem_cons.mp hy with rfl|hy
     ·exact absurd hf hk
     ·exact h3 y hy hf
 obtain ⟨cl,e,h1,_,h3⟩:=key scope.names [] h (fun y c q=>by simp at q)
 refine ⟨cl,?_,h1,h3⟩
 unfold closureFor
 exact (bind_congr (fun _=>rfl)).trans (by rw [e];rfl)
theorem bO {scope:Scope} {env:Env} {x:Str} {k:NameKind} (h:(relabel scope env).names.lookup x=some k):scope.names.lookup x=some k∨(scope.names.lookup x=some .free∧k = .cell):=by
 unfold relabel at h
 have key: ∀l:List (Str×NameKind),(l.map fun (n,k)=>if (k == NameKind.free&&env.scope.kind == .function&&env.kindOf n == some .cell) then (n,NameKind.cell) else (n,k)).lookup x=some k→l.lookup x=some k∨(l.lookup x=some .free∧k = .cell):=by
  intro l
  induction l with
  |nil=>intro h;simp at h
  |cons y r ih=>
   obtain ⟨n,j⟩:=y
   intro h
   rw [List.map_cons] at h
   simp only [List.lookup_cons]
   cases q:x == n with
   |true=>
    by_cases hc:(j == NameKind.free&&env.scope.kind == .function&&env.kindOf n == some .cell)=true
    ·
     simp only [hc,if_true,List.lookup_cons,q] at h
     cases h
     have:j = .free:=by
      simp only [Bool.and_eq_true,beq_iff_eq] at hc
      exact hc.1.1
     subst this
     exact .inr ⟨rfl,rfl⟩
    ·
     have hc':(j == NameKind.free&&env.scope.kind == .function&&env.kindOf n == some .cell)=false:=by simpa using hc
     simp only [hc',Bool.false_eq_true,if_false,List.lookup_cons,q] at h
     exact .inl h
   |false=>
    by_cases hc:(j == NameKind.free&&env.scope.kind == .function&&env.kindOf n == some .cell)=true
    ·
     simp only [hc,if_true,List.lookup_cons,q] at h
     exact ih h
    ·
     have hc':(j == NameKind.free&&env.scope.kind == .function&&env.kindOf n == some .cell)=false:=by simpa using hc
     simp only [hc',Bool.false_eq_true,if_false,List.lookup_cons,q] at h
     exact ih h
 exact key _ h
theorem gE {h:Heap} {b n:Addr} {o:Obj} (e:h.get? b=some o) (hn:h.objs.size≤n):b≠n:=Nat.ne_of_lt (Nat.lt_of_lt_of_le (Heap.lt_size e) hn)
structure dE (X:Cx) (scope:Scope) (N:List Str) (nv:Nat) (ix:List Nat):Prop where
 kind:scope.kind = .function
 nocell: ∀y∈scope.names,y.2≠ .cell
 names: ∀y∈scope.names,y.2 = .local→scope.names.lookup y.1=some .local
 fre: ∀y∈scope.names,y.2 = .free→X.env.kindOf y.1=some .cell∨X.env.kindOf y.1=some .free
 len:N.length=nv+ix.length
 at_: ∀j y,N[nv+j]?=some y→∃i,ix[j]?=some i∧X.N[i]?=some y∧(X.env.kindOf y=some .cell∨X.env.kindOf y=some .free)∧scope.names.lookup y=some .free
noncomputable def aR (nv:Nat) (ix:List Nat) (σ:St):St:=List.replicate nv none++ix.map fun i=>(σ[i]?).join
section
variable {X:Cx} {pins:List (Addr×Obj)} {σ:St} {H:Hp} {s:Shared} {scope:Scope} {N:List Str} {nv:Nat} {ix:List Nat}
theorem gb {h1:Heap} {tk:Nat} {cl:List (Str×Addr)} {fp:List Addr} {C D:Addr} {oD:Obj} (S:dE X scope N nv ix) (I:Inv X pins σ H s) (hcl: ∀y c,cl.lookup y=some c→X.env.cells.lookup y=some c)
  (hcl2: ∀y∈scope.names,y.2 = .free→∃c,cl.lookup y.1=some c) (hfp: ∀b∈fp,dC X pins H b) (hob: ∀b∈fp,b<s.heap.objs.size)
  (hC:s.heap.objs.size≤C) (hD:s.heap.objs.size≤D) (hDC:D≠C) (old: ∀b o,s.heap.get? b=some o→h1.get? b=some o) {m:Str→Option Value} (hm:h1.Ns C m) (hoD:h1.get? D=some oD) (hdat: ∀v,oD.data≠ .cell v):
  Inv (X.comp scope cl C N s H fp) [(D,oD)] (aR nv ix σ) H {s with heap:=h1,toks:=tk}:=by
 refine ⟨⟨I.ok.mod,S.kind,I.ok.glob,I.ok.blt,hC,fun x y c e1 e2=>I.ok.inj x y c (hcl x c e1) (hcl y c e2),fun x hx=>?_,fun _ _ z=>absurd z Bool.false_ne_true,I.ok.hd,I.ok.frames,.inl rfl,fun b hb=>⟨fun z=>?_,fun x c e=>(hfp b hb).2.2.2.2.1 x c (hcl x c e)⟩,I.bs,
  Nat.le_trans I.ok.bsz I.sz,fun b o e hb=>?_,fun b hb z=>?_,I.stack,I.gp⟩,rfl,I.bare,Un.kept old,⟨m,hm,fun i x v e1 e2 e3=>?_⟩,fun x c e=>?_,I.hok.fresh hC,fun x c e=>I.cb x c (hcl x c e),fun p hp=>?_,I.hok.kept old,?_⟩
 ·
  have hx':(relabel scope X.env).names.lookup x=some .cell∨(relabel scope X.env).names.lookup x=some .free:=hx
  have fr:scope.names.lookup x=some .free:=by
   rcases hx' with z|z
   ·
    rcases bO z with q|q
    ·exact absurd rfl (S.nocell _ (PySem.mem_of_lookup q))
    ·exact q.1
   ·
    rcases bO z with q|q
    ·exact q
    ·cases q.2
  exact hcl2 (x,.free) (PySem.mem_of_lookup fr) rfl
 ·exact Nat.ne_of_lt (Nat.lt_of_lt_of_le (hob b hb) hC) z
 ·
  rcases (hfp b hb).2.2.2.1 with z|z
  ·exact I.ok.noex b o e z
  ·exact gE e (Nat.le_trans I.ok.bsz z) rfl
 ·
  rcases List.mem_cons.mp (I.da b z) with q|q
  ·exact (hfp b hb).2.1 q
  ·exact (hfp b hb).2.2.1 q
 ·
  have e1':N[i]?=some x:=e1
  by_cases hi:i<nv
  ·
   have e2':(aR nv ix σ)[i]?=some (some v):=e2
   unfold aR at e2'
   rw [List.getElem?_append_left (by simpa using hi),List.getElem?_replicate,if_pos hi] at e2'
   cases e2'
  ·
   obtain ⟨j,rfl⟩: ∃j,i=nv+j:=⟨i - nv,by omega⟩
   obtain ⟨k,hk,hN,hkd,hsc⟩:=S.at_ j x e1'
   have e2':(aR nv ix σ)[nv+j]?=some (some v):=e2
   unfold aR at e2'
   rw [List.getElem?_append_right (by simp),List.length_replicate,Nat.add_sub_cancel_left,List.getElem?_map,hk] at e2'
   have e4:σ[k]?=some (some v):=by
    have e5:(σ[k]?).join=some v:=by simpa using e2'
    cases q:σ[k]? with
    |none=>rw [q] at e5;cases e5
    |some z=>rw [q] at e5;have:z=some v:=e5;rw [this]
   obtain ⟨m0,_,hl⟩:=I.loc
   have vis:m3 X.env.scope x:=by
    rcases hkd with z|z
    ·exact .inr (.inl z)
    ·exact .inr (.inr z)
   obtain ⟨u,r,l⟩:=hl k x v hN e4 vis
   refine ⟨u,r,?_⟩
   rcases l with ⟨z,_⟩|⟨_,c,hc,hcell⟩
   ·rcases hkd with q|q<;>rw [q] at z<;>cases z
   ·
    obtain ⟨c',hc'⟩:=hcl2 (x,.free) (PySem.mem_of_lookup hsc) rfl
    have:=hcl x c' hc'
    rw [hc] at this
    cases this
    refine .inr ⟨?_,c,hc',hcell.keeps old⟩
    rcases e3 with z|z|z
    ·
     rcases bO z with q|q
     ·rw [hsc] at q;cases q
     ·cases q.2
    ·exact .inl z
    ·exact .inr z
 ·
  obtain ⟨v,q⟩:=I.cell x c (hcl x c e)
  exact ⟨v,q.keeps old⟩
 ·
  have hp':p∈[(D,oD)]:=hp
  have e:p=(D,oD):=by simpa using hp'
  subst e
  refine ⟨hoD,I.hok.fresh hD,hDC,fun z=>?_,hdat⟩
  rcases List.mem_cons.mp (I.da D z) with q|q
  ·exact Nat.ne_of_gt (Nat.lt_of_lt_of_le I.lt hD) q
  ·exact I.nofs hD q
 ·
  show (aR nv ix σ).length=N.length
  unfold aR
  rw [List.length_append,List.length_replicate,List.length_map,S.len]
theorem jA {cl:List (Str×Addr)} {fp:List Addr} {C D:Addr} {its:List Value} {ys:List V} {n:Nat} {σ':St} {H':Hp} {s':Shared} (I:Inv X pins σ H s) (hfp: ∀b∈fp,dC X pins H b) (hD:s.heap.objs.size≤D)
  (J:Inv (X.comp scope cl C N s H fp) [(D,{cls:= .type "list",data:= .seq its.toArray n})] σ' H' s') (r:Vals ys its) (hl:ys.length≤sizeLine):Inv X pins σ (upd H' D (.lst ys)) s':=by
 obtain ⟨eD,fD,_⟩:=J.pin (D,{cls:= .type "list",data:= .seq its.toArray n}) (by simp [Cx.comp])
 have U:Un (frs X.stack) fp H H' s.heap s'.heap:=J.base
 have neD: ∀b o,s.heap.get? b=some o→b≠D:=fun b o e=>gE e hD
 refine I.call' (ch:=fp) J.os ⟨U.keep,U.slot,fun b o e n hx=>?_,U.there,fun b xs e=>?_,fun b o xs e=>?_,fun b ps e=>?_⟩ (fun b u e=>?_) J.bare fun b hb=>(hfp b hb).2.2.2 |> fun z=>⟨z.1,(hfp b hb).2.1,z.2.1,z.2.2⟩
 ·rw [aa (neD b o e)];exact U.free b o e n hx
 ·
  have q:=U.tups b xs e
  rw [aa (av q fD)];exact q
 ·
  have q:=U.frzs b o xs e
  rw [aa (av q fD)];exact q
 ·
  obtain ⟨more,q⟩:=U.tbls b ps e
  exact ⟨more,by rw [aa (av q fD)];exact q⟩
 ·
  by_cases hb:b=D
  ·
   subst hb
   rw [af] at e
   cases e
   exact ⟨hl,its,n,r,eD⟩
  ·
   rw [aa hb] at e
   exact (J.hok b u e).stay (fun c v _ q=>q) (fun c q=>by rw [aa (av q fD)];exact q) fun c xs q=>by rw [aa (av q fD)];exact q
end
section
variable {prog:Program} {w:World} {A:Around} {E:Value→Shared→Prop} {R:Result→Shared→Prop} {s:Shared}
theorem eI {elt target iter:Expr} {ifs:List Expr} {scope:Scope} {pos:Pos} {it acc:Value} {env:Env} (I:Nat→Shared→Prop)
  (
   turn: ∀n s,I n s→wpAny (model prog w) A (pyNext it) (fun r s₁=>match r with
   |none=>R (.ok .next) s₁
   |
     some v=>wpAny (model prog w) A (letOwnedTupleGo target it v) (fun _ s₀=>wpAny (model prog w) A (assign target env v) (fun _ s₂=>
     wpAny (model prog w) A (forIn ifs true fun c r=>if r=true then do let ok←isTrue c env (eval c env);pure (ForInStep.yield ok) else pure (ForInStep.yield r)) (fun ok s₃=>
      if ok=true then wpAny (model prog w) A (eval elt env) (fun x s₄=>
       wpAny (model prog w) A (call (.builtin "list.append") [acc,x]) (fun _ s₅=> ∃m,m<n∧I m s₅) (fun _ _=>False) s₄) (fun _ _=>False) s₃
      else∃m,m<n∧I m s₃) (fun _ _=>False) s₂) (fun _ _=>False) s₀) (fun _ _=>False) s₁) (fun _ _=>False) s)
  (n:Nat) (h:I n s):
  codeAny (model prog w) A (.compLoop (.ListComp elt [⟨target,iter,ifs,0⟩] scope pos) 0 it acc env) R s:=by
 refine codeAny_loop rfl I (fun n s hI=>?_) n h
 show wpAny _ A ((compTurn (.ListComp elt [⟨target,iter,ifs,0⟩] scope pos) 0 it acc env).onRaise (fun x=>do noteFrame x env;theTreesLotGoes x)) _ _ s
 refine wpAny_noted ?_
 rw [compTurn_list]
 refine wpAny_bind (wpAny_standAt (wpAny_bind (wpAny_mono (turn n s hI) (fun r s₁ h₁=>?_) fun _ _ h'=>h'.elim)))
 cases r with
 |none=>exact wpAny_pure h₁
 |some v=>
  refine wpAny_bind (wpAny_mono h₁ (fun _ s₀ h₀=>?_) fun _ _ h'=>h'.elim)
  refine wpAny_bind (wpAny_mono h₀ (fun _ s₂ h₂=>wpAny_bind (wpAny_mono h₂ (fun ok s₃ h₃=>?_) fun _ _ h'=>h'.elim)) fun _ _ h'=>h'.elim)
  cases ok with
  |false=>exact wpAny_pure ⟨rfl,h₃⟩
  |true=>
   exact wpAny_bind (wpAny_bind (wpAny_mono h₃ (fun x s₄ h₄=>wpAny_bind (wpAny_mono h₄ (fun _ s₅ h₅=>wpAny_pure (wpAny_pure ⟨rfl,h₅⟩)) fun _ _ h'=>h'.elim)) fun _ _ h'=>h'.elim))
end
def jQ:TT:=fun _ H Q=>Q true H
def bK (J:It) (g:TG) (tt:TT) (te:TE) (σ₀:St) (H1:Hp) (Q:List V→Hp→Prop):Prop:=
 ∃W:Nat→Nat→List V→St→Hp→Prop,(∃m,W 0 m [] σ₀ H1)∧∀i m ys σ' H',W i m ys σ' H'→
  (
   J.stop i H'∧Q ys H')∨(J.go i H'∧ys.length<sizeLine∧∃N:List V→St→Hp→Prop,(∀ys' σ'' H'',N ys' σ'' H''→∃m',m'<m∧W (i+1) m' ys' σ'' H'')∧
   ∀x H'',J.yld i H' x H''→g x σ' H'' fun σ2 H2=>tt σ2 H2 fun b H3=>if b=true then te σ2 H3 fun y H4=>N (ys++ [y]) σ2 H4 else N ys σ2 H3)
def dQ (nv:Nat) (ix:List Nat) (wi:TI) (g:TG) (tt:TT) (te:TE):TE:=fun σ H Q=>wi σ H fun J H1=>bK J g tt te (aR nv ix σ) H1 fun ys H'=>ys.length≤sizeLine∧∀D,H' D=none→Q (.ref D) (upd H' D (.lst ys))
section
variable {X:Cx} {tg elt iter:Expr} {ifs:List Expr} {scope:Scope} {N:List Str} {nv:Nat} {ix:List Nat} {pos spos:Pos} {wi:TI} {g:TG} {tt:TT} {te:TE}
def oy (X:Cx) (ifs:List Expr) (tt:TT):Prop:=
 ∀(pins:List (Addr×Obj)) (s:Shared) (σ:St) (H:Hp) (Q:Bool→Hp→Prop),Inv X pins σ H s→tt σ H Q→
  wpAny (model X.prog X.w) X.A (forIn ifs true fun c r=>if r=true then do let ok←isTrue c X.env (eval c X.env);pure (ForInStep.yield ok) else pure (ForInStep.yield r)) (TP X pins σ Q) X.xe s
theorem cD:oy X [] jQ:=fun _ _ _ H _ I h=>wpAny_tests_nil ⟨H,I,h⟩
theorem dY {use:Option (Value→Sem Unit)} {Qv:Value→Shared→Prop} {pins:List (Addr×Obj)} {s:Shared} {σ:St} {H:Hp} {Q:List V→Hp→Prop} (hc:X.calm=true) (S:dE X scope N nv ix) (hi:PI X tg iter wi)
  (hg: ∀cl C s H ex,PG (X.comp scope cl C N s H ex) tg g) (ht: ∀cl C s H ex,oy (X.comp scope cl C N s H ex) ifs tt) (he: ∀cl C s H ex,PE (X.comp scope cl C N s H ex) elt te) (I:Inv X pins σ H s)
  (h:wi σ H fun J H1=>bK J g tt te (aR nv ix σ) H1 fun ys H'=>ys.length≤sizeLine∧Q ys H')
  (fin: ∀ys D C H' s' (s2:Shared) (σ2:St),Q ys H'→H' D=none→D≠C→Inv X pins σ (upd H' D (.lst ys)) s'→(∃m,s'.heap.Ns C m)→(∀H'',H'' C=none→dC X pins H'' C)→H' C=none→compPost (model X.prog X.w) X.A X.xe use Qv (.ref D) C (.ok .next) s')
  (hs: ∀x,foldedSetIterable iter X.env x=pure x):
  wpAny (model X.prog X.w) X.A (comprehension (.ListComp elt [⟨tg,iter,ifs,0⟩] scope pos) scope X.env (firstIterPos [⟨tg,iter,ifs,0⟩] pos) (newList []) false (eval iter X.env) use) Qv X.xe s:=by
 obtain ⟨cl,hclos,hcl,hcl2⟩:=dB (env:=X.env) (scope:=scope) fun y hy hf=>I.ok.has y.1 (S.fre y hy hf)
 refine wpAny_comprehension_free (use:=use) rfl hs hclos S.kind S.names (thn (hi pins s σ H _ I h) fun v s1 h1=>thn h1 fun itv s2 h2=>?_)
 obtain ⟨it,fp,tn,J,H2,e,I2,T,st2,f2,W,⟨m0,w0⟩,turn⟩:=h2
 subst e
 refine wpAny_newObj_type (wpAny_newFunctionEnv S.nocell (by intro y hy;simp at hy) (fun h₁ hns₁ hsb₁=>?_) S.kind)
 dsimp only at hns₁ hsb₁⊢
 generalize hH2:s2.heap.push {cls:= .type "list",dict:=none,data:= .seq ([]:List Value).toArray}=G2 at hns₁ hsb₁⊢
 have hC:G2.objs.size=s2.heap.objs.size+1:=by rw [←hH2,Heap.size_push]
 have hDC:s2.heap.objs.size≠G2.objs.size:=by rw [hC];exact Nat.ne_of_lt (Nat.lt_succ_self _)
 have old: ∀b o,s2.heap.get? b=some o→h₁.get? b=some o:=fun b o e=>hsb₁.extBut b o (gE e (by rw [hC];exact Nat.le_succ _)) (Heap.get?_push_of_some _ (hH2▸Heap.get?_push_of_some _ e))
 have hacc:h₁.get? s2.heap.objs.size=some {cls:= .type "list",data:= .seq ([]:List Value).toArray 0}:=hsb₁.extBut _ _ hDC (Heap.get?_push_of_some _ (hH2▸Heap.get?_push_size _ rfl))
 have hob: ∀b∈fp,b<s2.heap.objs.size:=fun b hb=>by
  obtain ⟨o,e,_⟩:=T.obj _ _ st2 b hb
  exact Heap.lt_size e
 have hCle:s2.heap.objs.size≤G2.objs.size:=by rw [hC];exact Nat.le_succ _
 have I4: ∀tk,Inv (X.comp scope cl G2.objs.size N s2 H2 fp) [(s2.heap.objs.size,{cls:= .type "list",data:= .seq ([]:List Value).toArray 0})] (aR nv ix σ) H2 {s2 with heap:=h₁,toks:=tk}:=fun tk=>
  gb S I2 hcl hcl2 f2 hob hCle (Nat.le_refl _) hDC old hns₁ hacc (fun v z=>by cases z)
 have hst₁:tn 0 h₁:=T.keep _ _ _ st2 fun b _ o e=>old b o e
 have stat: ∀{H':Hp} {pns:List (Addr×Obj)},(∀p∈pns,p.1=s2.heap.objs.size)→(∀b∈fp,H' b=none)→∀b∈fp,dC (X.comp scope cl G2.objs.size N s2 H2 fp) pns H' b:=fun {H' pns} hp hn b hb=>by
  obtain ⟨f0,f1,f3,f4,f5,f6⟩:=f2 b hb
  have hlt:=hob b hb
  refine ⟨hn b hb,fun z=>?_,fun z=>?_,.inl hb,fun x c e=>f5 x c (hcl x c e),fun p hp' z=>?_⟩
  ·exact Nat.ne_of_lt (Nat.lt_of_lt_of_le hlt hCle) z
  ·
   rcases List.mem_cons.mp (I2.da b z) with q|q
   ·exact f1 q
   ·exact f3 q
  ·
   have hp'':p∈pns:=by simpa [Cx.comp] using hp'
   exact Nat.ne_of_gt (by rw [hp p hp''];exact hlt) z
 have loop: ∀s₃:Shared,s₃={s2 with heap:=h₁,toks:=s2.toks+([]:List (Str×Value)).length}→
   codeAny (model X.prog X.w) X.A (.compLoop (.ListComp elt [⟨tg,iter,ifs,0⟩] scope pos) 0 (.ref it) (.ref s2.heap.objs.size) (compEnvC scope cl G2.objs.size X.env))
    (compPost (model X.prog X.w) X.A X.xe use Qv (.ref s2.heap.objs.size) G2.objs.size) s₃:=by
  rintro s₃ rfl
  refine eI (fun n s'=> ∃i ys its σ' H',Inv (X.comp scope cl G2.objs.size N s2 H2 fp) [(s2.heap.objs.size,{cls:= .type "list",data:= .seq its.toArray its.length})] σ' H' s'∧tn i s'.heap∧(∀b∈fp,H' b=none)∧Vals ys its∧W i n ys σ' H') ?_ m0
   ⟨0,[],[],_,H2,I4 _,hst₁,fun b hb=>(f2 b hb).1,.nil,w0⟩
  rintro n s' ⟨i,ys,its,σ',H',I',st',fr',rv,w'⟩
  have pin1: ∀{o:Obj},∀p∈[(s2.heap.objs.size,o)],p.1=s2.heap.objs.size:=fun {o} p hp=>by
   exact congrArg Prod.fst (List.mem_singleton.mp hp)
  rcases turn i n ys σ' H' w' with ⟨stop,hl,qn⟩|⟨go,hlen,Nx,hN,step⟩
  ·
   refine thn (T.done (X.comp scope cl G2.objs.size N s2 H2 fp) rfl rfl rfl hc i _ s' σ' H' (fun _ _=>False) I' (stat pin1 fr') st' stop) fun r s4 ⟨hr,I5⟩=>?_
   subst hr
   obtain ⟨m5,hm5,_⟩:=I5.loc
   have fD:=(I5.pin (s2.heap.objs.size,{cls:= .type "list",data:= .seq its.toArray its.length}) (List.mem_append_right _ (by simp))).2.1
   exact fin ys _ _ H' s4 s2 σ' qn fD hDC (jA I2 f2 (Nat.le_refl _) I5 rv hl) ⟨m5,hm5⟩ (fun H'' hn=>I2.iD hCle hn) I5.free
  ·
   refine thn (T.item (X.comp scope cl G2.objs.size N s2 H2 fp) rfl rfl rfl hc i _ s' σ' H' (fun _ _=>False) I' (stat pin1 fr') st' go) fun r s4 ⟨u,hr,h4⟩=>?_
   subst hr
   refine thn h4 fun _ s5 ⟨x,H5,I5,r5,y5,st5,fr5⟩=>?_
   have I5':=I5.pinned (stat pin1 fr5) (T.obj _ _ st5)
   refine thn (hg _ _ _ _ _ _ s5 σ' H5 x u _ I5' r5 (step x H5 y5)) fun _ s6 ⟨σ6,H6,I6,q6⟩=>?_
   refine thn (ht _ _ _ _ _ _ s6 σ6 H6 _ I6 q6) fun b s7 ⟨H7,I7,q7⟩=>?_
   have back: ∀{σ8:St} {H8:Hp} {s8:Shared},Inv (X.comp scope cl G2.objs.size N s2 H2 fp) ([(s2.heap.objs.size,{cls:= .type "list",data:= .seq its.toArray its.length})]++dm fp s5.heap) σ8 H8 s8→tn (i+1) s8.heap∧∀b∈fp,H8 b=none:=fun {σ8 H8 s8} J=>
    ⟨
     T.keep _ _ _ st5 fun b hb o e=>(J.pin (b,o) (List.mem_append_right _ (List.mem_append_right _ (bQ hb e)))).1,fun b hb=>by
     obtain ⟨o,e,d⟩:=T.obj _ _ st5 b hb
     exact (J.pin (b,o) (List.mem_append_right _ (List.mem_append_right _ (bQ hb e)))).2.1⟩
   cases b with
   |false=>
    rw [if_neg Bool.false_ne_true] at q7
    obtain ⟨m',hm,w7⟩:=hN _ _ _ q7
    exact ⟨m',hm,i+1,ys,its,σ6,H7,I7.unpinned,(back I7).1,(back I7).2,rv,w7⟩
   |true=>
    rw [if_pos rfl] at q7
    refine thn (he _ _ _ _ _ _ s7 σ6 H7 _ I7 q7) fun y s8 ⟨yv,H8,I8,r8,q8⟩=>?_
    obtain ⟨eD,fD,nD,nfD,dD⟩:=I8.pin (s2.heap.objs.size,{cls:= .type "list",data:= .seq its.toArray its.length}) (List.mem_append_right _ (by simp))
    refine append_at (hsz:=by rw [List.size_toArray,←rv.length];exact Nat.le_of_lt hlen) eD fun h₅ hs₅ hD₅=>?_
    obtain ⟨m',hm,w8⟩:=hN _ _ _ q8
    have fpD:s2.heap.objs.size ∉ fp:=fun z=>Nat.lt_irrefl _ (hob _ z)
    have I9:Inv (X.comp scope cl G2.objs.size N s2 H2 fp) [] σ6 H8 s8:=I8.c7 fun p hp=>absurd hp (by simp)
    have fk:=I2.iD (H':=H8) (Nat.le_refl _) fD
    have I10:Inv (X.comp scope cl G2.objs.size N s2 H2 fp) [] σ6 H8 {s8 with heap:=h₅,toks:=s8.toks}:=
     I9.turned (it:=s2.heap.objs.size) (fun b o hb e=>hs₅.extBut b o hb e) fD nD (.inr (Nat.le_refl _)) (fun x c e=>fk.2.2.2.2.1 x c (hcl x c e)) (fun p hp=>absurd hp (by simp [Cx.comp]))
    refine ⟨m',hm,i+1,ys++ [yv],its++ [y],σ6,H8,I10.c7 fun p hp=>?_,?_,(back I8).2,rv.append (.cons r8 .nil),w8⟩
    ·
     have e:p=(s2.heap.objs.size,{cls:= .type "list",data:= .seq (its++ [y]).toArray (its++ [y]).length}):=by simpa using hp
     subst e
     refine ⟨?_,fD,nD,nfD,fun v z=>by cases z⟩
     show h₅.get? s2.heap.objs.size=_
     rw [hD₅,List.push_toArray,List.length_append,List.length_singleton]
    ·exact T.keep _ _ _ (back I8).1 fun b hb o e=>hs₅.extBut b o (fun z=>fpD (by have z':b=s2.heap.objs.size:=z;rw [←z'];exact hb)) e
 exact codeAny_compStart_list (loop _ rfl) (T.self _ 0 _ _ _ hst₁ (loop _ rfl))
theorem gz (hc:X.calm=true) (S:dE X scope N nv ix) (hi:PI X tg iter wi)
  (hg: ∀cl C s H ex,PG (X.comp scope cl C N s H ex) tg g) (ht: ∀cl C s H ex,oy (X.comp scope cl C N s H ex) ifs tt) (he: ∀cl C s H ex,PE (X.comp scope cl C N s H ex) elt te)
  (hs: ∀x,foldedSetIterable iter X.env x=pure x:=by intro _;rfl):PE X (.ListComp elt [⟨tg,iter,ifs,0⟩] scope pos) (dQ nv ix wi g tt te):=by
 intro pins s σ H Q I h
 rw [eval_ListComp]
 refine dY (Q:=fun ys H'=> ∀D,H' D=none→Q (.ref D) (upd H' D (.lst ys))) (use:=none) hc S hi hg ht he I ?_ (fun ys D C H' s' s2 σ2 q fD hDC J hm fk fC=>?_) hs
 ·exact h
 ·
  obtain ⟨m,hm⟩:=hm
  refine ⟨m,hm,fun h' sb=>⟨.ref D,_,?_,rfl,q D fD⟩⟩
  have fC':upd H' D (.lst ys) C=none:=by rw [aa (Ne.symm hDC)];exact fC
  obtain ⟨f0,f1,f2,f3,f4,f5⟩:=fk _ fC'
  exact J.turned (t':=s'.toks) (it:=C) (fun b o hb e=>sb.extBut b o hb e) f0 f1 f3 f4 f5
theorem ek {i:Nat} {x:Str} {px:Pos} (hc:X.calm=true) (hN:X.N.Nodup) (hi':X.N[i]?=some x) (hx:X.env.scope.names.lookup x=some .local) (S:dE X scope N nv ix) (hi:PI X tg iter wi)
  (hg: ∀cl C s H ex,PG (X.comp scope cl C N s H ex) tg g) (ht: ∀cl C s H ex,oy (X.comp scope cl C N s H ex) ifs tt) (he: ∀cl C s H ex,PE (X.comp scope cl C N s H ex) elt te)
  (hsw:swapsWith (.ListComp elt [⟨tg,iter,ifs,0⟩] scope pos) (some (.Name x px)) spos.line X.env=pure true:=by rfl)
  (hs: ∀x,foldedSetIterable iter X.env x=pure x:=by intro _;rfl):PS X (.Assign [.Name x px] (.ListComp elt [⟨tg,iter,ifs,0⟩] scope pos) spos) (jV (dQ nv ix wi g tt te) (cK i)):=by
 intro pins s σ H D I h
 rw [exec_Assign_Name_used _ _ _ _ hsw]
 refine wpAny_bind (wpAny_standAt (wpAny_bind ?_))
 show wpAny _ _ (do let _←comprehension (.ListComp elt [⟨tg,iter,ifs,0⟩] scope pos) scope X.env (firstIterPos [⟨tg,iter,ifs,0⟩] pos) (newList []) false (eval iter X.env) (some (assign (.Name x px) X.env))) _ _ s
 refine wpAny_bind (thn (dY (Q:=fun ys H'=> ∀l,H' l=none→D.nx (σ.set i (some (.ref l))) (upd H' l (.lst ys))) (use:=some (assign (.Name x px) X.env)) (Qv:=fun _ s'=>SP X pins D .next s') hc S hi hg ht he I h (fun ys l C H' s' s2 σ2 q fD hDC J hm fk fC=>?_) hs)
  fun _ s' hq=>wpAny_pure (wpAny_pure hq))
 obtain ⟨m,hm⟩:=hm
 have fC':upd H' l (.lst ys) C=none:=by rw [aa (Ne.symm hDC)];exact fC
 obtain ⟨f0,f1,f2,f3,f4,f5⟩:=fk _ fC'
 show wpAny _ _ (assign (.Name x px) X.env (.ref l)) _ _ s'
 refine wpAny_assign_Name (dS J hN hi' (.inl hx) (v:= .ref l) (u:= .ref l) rfl (fun s'' J' ⟨a,sb,ha⟩=>?_) (.inr hx))
 have hCa:C≠a:=by
  rcases ha with z|z
  ·rw [z];exact f1
  ·exact Ne.symm (f4 x a z)
 refine ⟨m,hm.sameBut sb hCa,fun h' sb'=>⟨_,_,?_,q l fD⟩⟩
 exact J'.turned (t':=s''.toks) (it:=C) (fun b o hb e=>sb'.extBut b o hb e) f0 f1 f3 f4 f5
end
noncomputable def o7 (x:Str):It:=⟨fun i _=>i<x.cps.size,fun i H v H'=>H'=H∧∃c,x.cps[i]?=some c∧v = .str ⟨#[c]⟩,fun i _=>x.cps.size≤i⟩
theorem eV {P:Program} {w:World} {K:PySem.W.Frag} {tg:Expr} (it:Addr) (x:Str) (t:Tok) (T:String) (hT:T = "str_ascii_iterator" ∨T = "str_iterator"):Turn P w K tg (o7 x) [it] it (fun i h=>h.IsStrIter it T x t i) where
 mem:=by simp
 obj:=fun i h st b hb=>by
  have e:b=it:=by simpa using hb
  subst e
  obtain ⟨o,e,c,d⟩:=st
  exact ⟨o,e,fun v z=>by rw [d] at z;cases z⟩
 keep:=fun i h h' st k=>by
  obtain ⟨o,e,r⟩:=st
  exact ⟨o,k it (by simp) o e,r⟩
 item:=by
  intro X hP hw hK hc i pins s σ H E I hf st hg
  subst hP hw hK
  obtain ⟨f0,f1,f2,f3,f4,f5⟩:=hf it (by simp)
  have hg':i<x.cps.size:=hg
  have W:Walks X.prog X.w X.A it [it] [it] x.cps.size (SignAt x) (fun i h=>h.IsStrIter it T x t i):=by
   rcases hT with rfl|rfl
   ·exact Walks.strAscii (I.ok.hd hc) it x t
   ·exact Walks.strWide (I.ok.hd hc) it x t
  refine W.item i s _ _ hg' st fun v h' tk hv st' kk=>?_
  obtain ⟨c,u,hcx,rfl⟩:=hv
  have I1:Inv X pins σ H {s with heap:=h',toks:=tk}:=I.turned (fun b o hb e=>kk b o (by simpa using hb) e) f0 f1 f3 f4 f5
  obtain ⟨o,e,c',d⟩:=id st'
  refine ⟨_,rfl,gH (s:={s with heap:=h',toks:=tk}) e c' d (by rcases hT with rfl|rfl<;>decide) ⟨.str ⟨#[c]⟩,H,I1,⟨u,rfl⟩,⟨rfl,c,hcx,rfl⟩,st',fun b hb=>(hf b hb).1⟩⟩
 done:=by
  intro X hP hw hK hc i pins s σ H E I hf st hg
  subst hP hw hK
  obtain ⟨f0,f1,f2,f3,f4,f5⟩:=hf it (by simp)
  have hg':x.cps.size≤i:=hg
  have he:x.cps[i]?=none:=by simp [hg']
  rcases hT with rfl|rfl
  ·exact wpAny_pyNext_ascii_end (I.ok.hd hc) st he fun h' eb=>⟨rfl,I.turned (t':=s.toks) (fun b o hb e=>eb b o hb e) f0 f1 f3 f4 f5⟩
  ·exact wpAny_pyNext_wide_end (I.ok.hd hc) st he fun h' eb=>⟨rfl,I.turned (t':=s.toks) (fun b o hb e=>eb b o hb e) f0 f1 f3 f4 f5⟩
 self:=fun _ _ _ _ _ st h=>by
  rcases hT with rfl|rfl
  ·exact wpAny_pyIter_striter_ascii st h
  ·exact wpAny_pyIter_striter_wide st h
def fI (K:PySem.W.Frag) (x:V) (H1:Hp) (R:It→Hp→Prop):Prop:=match x with
 | .ref a=>(∃xs,aF K H1 a xs∧R (om K a) H1)∨(∃xs,bV K H1 a xs∧R (o6 K a) H1)
 | .str z=>R (o7 z) H1
 |_=>False
def kK (K:PySem.W.Frag) (tl:TE):TI:=fun σ H R=>tl σ H fun x H1=>fI K x H1 R
theorem lY {X:Cx} {tg l:Expr} {tl:TE} (hl:PE X l tl):PI X tg l (kK X.K tl):=by
 intro pins s σ H R I h
 refine thn (hl pins s σ H _ I h) fun v s1 ⟨x,H1,I1,r1,q1⟩=>?_
 cases x with
 |ref a=>
  cases r1
  rcases q1 with ⟨xs,hq,q⟩|⟨xs,hq,q⟩
  ·
   obtain ⟨its,rv,p,hz⟩:=I1.list hq
   refine wpAny_pyIter_list p.isList ?_
   refine ⟨s1.heap.objs.size,[s1.heap.objs.size],_,_,H1,rfl,I1.kept (t':=s1.toks) fun b o e=>Heap.get?_push_of_some _ e,gW a _,⟨_,Heap.get?_push_size _ rfl,rfl,rfl⟩,fun b hb=>?_,q⟩
   have e:b=s1.heap.objs.size:=by simpa using hb
   subst e
   exact I1.iD (Nat.le_refl _) (I1.hok.fresh (Nat.le_refl _))
  ·
   obtain ⟨its,rv,p,hz⟩:=I1.tuple hq
   refine wpAny_pyIter_tuple (show s1.heap.IsTuple a its.toArray from p) ?_
   refine ⟨s1.heap.objs.size,[s1.heap.objs.size],_,_,H1,rfl,I1.kept (t':=s1.toks) fun b o e=>Heap.get?_push_of_some _ e,fz a _,⟨_,Heap.get?_push_size _ rfl,rfl,rfl⟩,fun b hb=>?_,q⟩
   have e:b=s1.heap.objs.size:=by simpa using hb
   subst e
   exact I1.iD (Nat.le_refl _) (I1.hok.fresh (Nat.le_refl _))
 |str z=>
  obtain ⟨t,rfl⟩:=r1
  have fp: ∀b∈[s1.heap.objs.size],dC X pins H1 b:=fun b hb=>by
   have e:b=s1.heap.objs.size:=by simpa using hb
   subst e
   exact I1.iD (Nat.le_refl _) (I1.hok.fresh (Nat.le_refl _))
  cases ha:z.cps.all (· < 128)
  ·exact wpAny_pyIter_wide ha ⟨s1.heap.objs.size,[s1.heap.objs.size],_,_,H1,rfl,I1.kept (t':=s1.toks) fun b o e=>Heap.get?_push_of_some _ e,eV _ z t _ (.inr rfl),⟨_,Heap.get?_push_size _ rfl,rfl,rfl⟩,fp,q1⟩
  ·exact wpAny_pyIter_ascii ha ⟨s1.heap.objs.size,[s1.heap.objs.size],_,_,H1,rfl,I1.kept (t':=s1.toks) fun b o e=>Heap.get?_push_of_some _ e,eV _ z t _ (.inl rfl),⟨_,Heap.get?_push_size _ rfl,rfl,rfl⟩,fp,q1⟩
 |_=>exact q1.elim
def forR (J:It) (g:TG) (tb:TS) (D:Ends) (σ:St) (H:Hp):Prop:= ∃W:Nat→Nat→St→Hp→Prop,(∃m,W 0 m σ H)∧∀i m σ H,W i m σ H→
 (J.stop i H∧D.nx σ H)∨(J.go i H∧∃N:St→Hp→Prop,(∀σ' H',N σ' H'→∃m',m'<m∧W (i+1) m' σ' H')∧∀x H',J.yld i H x H'→g x σ H' fun σ2 H2=>tb {D with nx:=N,ct:=N,bk:=D.nx} σ2 H2)
section
variable {K:PySem.W.Frag} {tl:TE} {g:TG} {tb:TS} {D:Ends} {σ:St} {H:Hp} {tt:TT} {te:TE} {nv:Nat} {ix:List Nat} {Q:VK} {ta:TA}
theorem iP:iQ (kK K tl) g tb D σ H=tl σ H fun x H1=>fI K x H1 fun J H2=>forR J g tb D σ H2:=rfl
theorem g6:dQ nv ix (kK K tl) g tt te σ H Q=tl σ H fun x H1=>fI K x H1 fun J H2=>bK J g tt te (aR nv ix σ) H2 fun ys H'=>ys.length≤sizeLine∧∀l,H' l=none→Q (.ref l) (upd H' l (.lst ys)):=rfl
def dU (vs:List V) (H1:Hp) (R:It→Hp→Prop):Prop:=match vs with
 | [.int j]=>(-(2 ^ 62)≤j∧j<2 ^ 62)∧R (iL 0 j.toNat) H1
 |_=>False
def gv (vs:List V) (H1:Hp) (R:It→Hp→Prop):Prop:=match vs with
 | [.int i,.int j]=>(-(2 ^ 62)≤i∧i<2 ^ 62∧-(2 ^ 62)≤j∧j<2 ^ 62)∧R (iL i (j - i).toNat) H1
 |_=>False
def jm (ta:TA):TI:=fun σ H R=>ta σ H fun vs H1=>dU vs H1 R
def lq (ta:TA):TI:=fun σ H R=>ta σ H fun vs H1=>gv vs H1 R
def gu (vs:List V) (H1:Hp) (R:It→Hp→Prop):Prop:=match vs with
 | [.int i,.int j,.int c]=>(-(2 ^ 61)≤i∧i<2 ^ 61∧-(2 ^ 61)≤j∧j<2 ^ 61∧0<c∧c<1000000)∧R (oj i c (rcount i j c)) H1
 |_=>False
def lp (ta:TA):TI:=fun σ H R=>ta σ H fun vs H1=>gu vs H1 R
theorem g0:iQ (jm ta) g tb D σ H=ta σ H fun vs H1=>dU vs H1 fun J H2=>forR J g tb D σ H2:=rfl
theorem gZ:iQ (lq ta) g tb D σ H=ta σ H fun vs H1=>gv vs H1 fun J H2=>forR J g tb D σ H2:=rfl
theorem gY:iQ (lp ta) g tb D σ H=ta σ H fun vs H1=>gu vs H1 fun J H2=>forR J g tb D σ H2:=rfl
theorem fG:dQ nv ix (jm ta) g tt te σ H Q=ta σ H fun vs H1=>dU vs H1 fun J H2=>bK J g tt te (aR nv ix σ) H2 fun ys H'=>ys.length≤sizeLine∧∀l,H' l=none→Q (.ref l) (upd H' l (.lst ys)):=rfl
theorem fF:dQ nv ix (lq ta) g tt te σ H Q=ta σ H fun vs H1=>gv vs H1 fun J H2=>bK J g tt te (aR nv ix σ) H2 fun ys H'=>ys.length≤sizeLine∧∀l,H' l=none→Q (.ref l) (upd H' l (.lst ys)):=rfl
theorem fE:dQ nv ix (lp ta) g tt te σ H Q=ta σ H fun vs H1=>gu vs H1 fun J H2=>bK J g tt te (aR nv ix σ) H2 fun ys H'=>ys.length≤sizeLine∧∀l,H' l=none→Q (.ref l) (upd H' l (.lst ys)):=rfl
theorem hE {j:Int} {R:It→Hp→Prop}:dU [.int j] H R=((-(2 ^ 62)≤j∧j<2 ^ 62)∧R (iL 0 j.toNat) H):=rfl
theorem g_ {i j:Int} {R:It→Hp→Prop}:gv [.int i,.int j] H R=((-(2 ^ 62)≤i∧i<2 ^ 62∧-(2 ^ 62)≤j∧j<2 ^ 62)∧R (iL i (j - i).toNat) H):=rfl
theorem g9 {i j c:Int} {R:It→Hp→Prop}:gu [.int i,.int j,.int c] H R=((-(2 ^ 61)≤i∧i<2 ^ 61∧-(2 ^ 61)≤j∧j<2 ^ 61∧0<c∧c<1000000)∧R (oj i c (rcount i j c)) H):=rfl
end
section
variable {X:Cx} {tg:Expr}
theorem bJ {a:Expr} {ta:TA} {p pos:Pos} (hg:Gl X "range") (hm:X.mg "range" = none) (ha:PA X [a] ta) (hs:starEach [a] X.env= [(false,eval a X.env)]:=by rfl):PI X tg (.Call (.Name "range" p) [a] [] pos) (jm ta):=by
 intro pins s σ H R I h
 refine Call_ (eF I hg hm boot_range (PyProof.Rows.callWith_type1 (thn (ha pos pins s σ H _ I h) fun us s1 ⟨vs,H1,I1,r1,q1⟩=>?_) hs rfl))
 replace q1:dU vs H1 R:=q1
 unfold dU at q1
 split at q1
 ·
  obtain ⟨⟨q1,q2⟩,q⟩:=q1
  cases r1 with
  |cons r rr=>
   cases rr
   obtain ⟨t,rfl⟩:=r
   exact call_range_1 (iV I1 (by omega) (by omega) q1 q2 (by simpa using q))
 ·exact q1.elim
end
section
variable {K:PySem.W.Frag} {g:TG} {tb:TS} {D:Ends} {σ:St} {H:Hp}
theorem gI {a:Addr} {xs:List V} (hS:aF K H a xs) (Pv:Nat→St→Hp→Prop) (h0:Pv 0 σ H) (hl: ∀i σ H,i≤xs.length→Pv i σ H→aF K H a xs)
  (hs: ∀i x σ H,xs[i]?=some x→Pv i σ H→g x σ H fun σ2 H2=>tb {D with nx:=Pv (i+1),ct:=Pv (i+1),bk:=D.nx} σ2 H2) (hd: ∀σ H,Pv xs.length σ H→D.nx σ H):
  fI K (.ref a) H fun J H2=>forR J g tb D σ H2:= .inl ⟨xs,hS,ju Pv h0 hl hs hd⟩
theorem fZ {lo:Int} {n:Nat} (Pv:Nat→St→Hp→Prop) (h0:Pv 0 σ H)
  (hs: ∀(i:Nat) σ H,i<n→Pv i σ H→g (.int (lo+i)) σ H fun σ2 H2=>tb {D with nx:=Pv (i+1),ct:=Pv (i+1),bk:=D.nx} σ2 H2) (hd: ∀σ H,Pv n σ H→D.nx σ H):
  forR (iL lo n) g tb D σ H:=iE Pv h0 hs hd
end
section
variable {K:PySem.W.Frag} {tt:TT} {te:TE} {H:Hp} {tail:St} {Q:List V→Hp→Prop} {p:V→Bool} {f:V→V}
theorem iG {J:It} {n:Nat} {xs:List V} (hn:xs.length=n) (hz:n≤sizeLine) (go: ∀i,i<n→J.go i H) (stop:J.stop n H) (yl: ∀i x H',i<n→J.yld i H x H'→H'=H∧xs[i]?=some x)
  (ht: ∀x∈xs,∀Q:Bool→Hp→Prop,Q (p x) H→tt (some x::tail) H Q) (he: ∀x∈xs,p x=true→∀Q:VK,Q (f x) H→te (some x::tail) H Q) (q:Q ((xs.filter p).map f) H):
  bK J (cK 0) tt te (none::tail) H Q:=by
 refine ⟨fun i m ys σ' H'=>i≤n∧m=n - i∧ys=((xs.take i).filter p).map f∧(∃v,σ'=v::tail)∧H'=H,⟨n,Nat.zero_le _,rfl,by simp,⟨_,rfl⟩,rfl⟩,?_⟩
 rintro i m ys σ' H' ⟨hi,rfl,rfl,⟨v,rfl⟩,rfl⟩
 by_cases e:i=n
 ·
  subst e
  refine .inl ⟨stop,?_⟩
  rw [List.take_of_length_le (by omega)]
  exact q
 ·
  have hlt:i<n:=by omega
  refine .inr ⟨go i hlt,?_,fun ys' σ'' H''=>ys'=((xs.take (i+1)).filter p).map f∧(∃v,σ''=v::tail)∧H''=H',fun ys' σ'' H'' ⟨a,b,c⟩=>⟨n - (i+1),by omega,by omega,rfl,a,b,c⟩,fun x H'' y=>?_⟩
  ·have h1:(((xs.take i).filter p).map f).length≤i:=by
    rw [List.length_map]
    exact Nat.le_trans (List.length_filter_le _ _) (by rw [List.length_take];omega)
   omega
  ·
   obtain ⟨rfl,hx⟩:=yl i x H'' hlt y
   have hm:x∈xs:=List.mem_of_getElem? hx
   have tk:xs.take (i+1)=xs.take i++ [x]:=by
    rw [List.take_succ,hx];rfl
   show tt _ _ _
   refine ht x hm _ ?_
   cases hp:p x with
   |true=>
    rw [if_pos rfl]
    refine he x hm hp _ ⟨?_,⟨_,rfl⟩,rfl⟩
    rw [tk,List.filter_append,List.map_append]
    simp [hp]
   |false=>
    rw [if_neg Bool.false_ne_true]
    refine ⟨?_,⟨_,rfl⟩,rfl⟩
    rw [tk,List.filter_append,List.map_append]
    simp [hp]
theorem mR {a:Addr} {xs:List V} (hS:bV K H a xs) (hz:xs.length≤sizeLine) (ht: ∀x∈xs,∀Q:Bool→Hp→Prop,Q (p x) H→tt (some x::tail) H Q) (he: ∀x∈xs,p x=true→∀Q:VK,Q (f x) H→te (some x::tail) H Q) (q:Q ((xs.filter p).map f) H):
  fI K (.ref a) H fun J H2=>bK J (cK 0) tt te (none::tail) H2 Q:=
 .inr ⟨xs,hS,iG (n:=xs.length) rfl hz (fun i hi=>⟨xs,xs[i],hS,by simp [hi]⟩) ⟨xs,hS,Nat.le_refl _⟩ (fun i x H' hi y=>⟨y.1,y.2 xs hS⟩) ht he q⟩
theorem gd {ix:List Nat} {σ:St}:aR 1 ix σ=none::ix.map fun i=>(σ[i]?).join:=rfl
end
section
variable {X:Cx}
def nI (neg:Bool):R2:=fun x y H Q=>match y with
 | .bl b=>Q (.bl (if neg then !decide (x = .bl b) else decide (x = .bl b))) H
 |_=>False
theorem fh {a b:Bool}:decide (V.bl a=V.bl b)=decide (a=b):=by
 cases a<;>cases b<;>decide
theorem j8 {a b:Bool} {H:Hp} {Q:VK}:nI false (.bl a) (.bl b) H Q=Q (.bl (decide (a=b))) H:=by
 show Q (.bl (if false=true then _ else decide (V.bl a=V.bl b))) H=_
 rw [if_neg Bool.false_ne_true,fh]
theorem fN {a b:Bool} {H:Hp} {Q:VK}:nI true (.bl a) (.bl b) H Q=Q (.bl (!decide (a=b))) H:=by
 show Q (.bl (if true=true then !decide (V.bl a=V.bl b) else _)) H=_
 rw [if_pos rfl,fh]
def nH (neg:Bool):R2:=fun x y H Q=>match y with
 | .non=>Q (.bl (if neg then !decide (x = .non) else decide (x = .non))) H
 |_=>False
theorem lQ {x:V} {H:Hp} {Q:VK}:nH false x .non H Q=Q (.bl (decide (x = .non))) H:=rfl
theorem lP {x:V} {H:Hp} {Q:VK}:nH true x .non H Q=Q (.bl (!decide (x = .non))) H:=rfl
def kf:V→List V→Hp→VK→Prop:=fun x vs H Q=>match x,vs with
 | .int i,[]=>Q (.int ((Builtin.Int.intBits i:Nat):Int)) H
 |_,_=>False
theorem jP {K:PySem.W.Frag} {i:Int} {H:Hp}:lA K "int" (.int i) H=True:=by
 show ("int" = "int")=True
 simp
theorem jO {K:PySem.W.Frag} {z:Str} {H:Hp}:lA K "str" (.str z) H=True:=by
 show ("str" = "str")=True
 simp
theorem e_ {i:Int} {H:Hp} {Q:VK}:kf (.int i) [] H Q=Q (.int ((Builtin.Int.intBits i:Nat):Int)) H:=rfl
def oH:V→Option Int→Option Int→Hp→VK→Prop:=fun x lo hi H Q=> ∃z,x = .str z∧z.length≤sizeLine∧Q (.str (Txt.slice z lo hi)) H
theorem fe {v:Value} {o:Option Int} (h:IsPart v o): ∃l:Option (Int×Tok),v=partValue l∧l.map (·.1)=o:=by
 cases h with
 |none=>exact ⟨none,rfl,rfl⟩
 |int i t=>exact ⟨some (i,t),rfl,rfl⟩
theorem lI:gU X oH:=by
 intro pins s σ H x v vl vu lo hi sl Q I rx hs pl pu h
 obtain ⟨z,rfl,hz,q⟩:=h
 obtain ⟨t,rfl⟩:=rx
 obtain ⟨l,rfl,el⟩:=fe pl
 obtain ⟨u,rfl,eu⟩:=fe pu
 refine ⟨"str",_,F.slot_str_getitem.lookup,typeIs_str _ _ _,wpAny_getItem_str_slice (l:=l) (u:=u) (st:=none) hs rfl ?_⟩
 unfold sliceMade
 have e:slicePicked z l u none=Builtin.Str.strSliceIndices lo hi 1 z.length:=by
  unfold slicePicked
  rw [el,eu]
  rfl
 rw [e]
 have hq:Txt.slice z lo hi=if ((1:Int) == 1&&(Builtin.Str.strSliceIndices lo hi 1 z.length).length == z.length)=true then z else ⟨((Builtin.Str.strSliceIndices lo hi 1 z.length).filterMap (z.cps[·]?)).toArray⟩:=rfl
 have hle:=Txt.slice_le z lo hi
 rw [hq] at q hle
 show (if ((1:Int) == 1&&(Builtin.Str.strSliceIndices lo hi 1 z.length).length == z.length)=true then Made.val (.str z t) else _).post _ s
 by_cases c:((1:Int) == 1&&(Builtin.Str.strSliceIndices lo hi 1 z.length).length == z.length)=true
 ·
  rw [if_pos c] at q⊢
  exact ⟨.str z,H,I,⟨t,rfl⟩,q⟩
 ·
  rw [if_neg c] at q hle⊢
  exact ⟨Nat.le_trans hle hz,.str _,H,I.tok _,⟨_,rfl⟩,q⟩
def jY (K:PySem.W.Frag):V→Option Int→Option Int→Hp→VK→Prop:=fun x lo hi H Q=>match x with
 | .ref a=>(∃xs,aF K H a xs∧∀p,H p=none→Q (.ref p) (upd H p (.lst (dI xs lo hi))))∨nu K (.ref a) lo hi H Q
 | .str z=>z.length≤sizeLine∧Q (.str (Txt.slice z lo hi)) H
 |_=>False
theorem gU.imp {r r':V→Option Int→Option Int→Hp→VK→Prop} (h:gU X r) (i: ∀x lo hi H Q,r' x lo hi H Q→r x lo hi H Q):gU X r':=
 fun pins s σ H x v vl vu lo hi sl Q I rx hs pl pu q=>h pins s σ H x v vl vu lo hi sl Q I rx hs pl pu (i _ _ _ _ _ q)
theorem oF:gU X (jY X.K):=by
 refine gU.imp (jW.or (lH.or lI)) fun x lo hi H Q h=>?_
 unfold jY at h
 split at h
 ·
  rcases h with ⟨xs,h1,h2⟩|h
  ·exact .inl ⟨_,xs,rfl,h1,h2⟩
  ·exact .inr (.inl h)
 ·exact .inr (.inr ⟨_,rfl,h.1,h.2⟩)
 ·exact h.elim
theorem iX {K:PySem.W.Frag} {z:Str} {lo hi:Option Int} {H:Hp} {Q:VK}:jY K (.str z) lo hi H Q=(z.length≤sizeLine∧Q (.str (Txt.slice z lo hi)) H):=rfl
def nJ (K:PySem.W.Frag) (neg:Bool):R2:=fun x y H Q=>match y with
 | .ref p=> ∃xs,(aF K H p xs∨bV K H p xs)∧gJ x=true∧xs.all gJ=true∧Q (.bl (if neg then !ou x xs else ou x xs)) H
 | .str j=>(match x with
  | .str i=>Q (.bl (if neg then !(!(Builtin.Str.occurrences j i 0 j.length 1).isEmpty) else !(Builtin.Str.occurrences j i 0 j.length 1).isEmpty)) H
  |_=>False)
 |_=>False
theorem i5 {K:PySem.W.Frag} {neg:Bool} {x:V} {p:Addr} {H:Hp} {Q:VK}:nJ K neg x (.ref p) H Q=(∃xs,(aF K H p xs∨bV K H p xs)∧gJ x=true∧xs.all gJ=true∧Q (.bl (if neg then !ou x xs else ou x xs)) H):=rfl
theorem i4 {K:PySem.W.Frag} {neg:Bool} {i j:Str} {H:Hp} {Q:VK}:nJ K neg (.str i) (.str j) H Q=Q (.bl (if neg then !(!(Builtin.Str.occurrences j i 0 j.length 1).isEmpty) else !(Builtin.Str.occurrences j i 0 j.length 1).isEmpty)) H:=rfl
end
inductive Dt where
 |non|int (i:Int)|str (z:Str)|l (ds:List Dt)|t (ds:List Dt)
def Den (K:PySem.W.Frag) (H:Hp):Nat→V→Dt→Prop
 |0,x,d=>(x = .non∧d = .non)∨(∃i,x = .int i∧d = .int i)∨(∃z,x = .str z∧d = .str z)
 |n+1,x,d=>Den K H n x d∨(∃a xs ds,x = .ref a∧d = .l ds∧aF K H a xs∧Paired (Den K H n) xs ds)∨(∃a xs ds,x = .ref a∧d = .t ds∧bV K H a xs∧Paired (Den K H n) xs ds)
theorem Paired.get {α β:Type} {F:α→β→Prop}: ∀{xs:List α} {ys:List β} {i:Nat} {x:α},Paired F xs ys→xs[i]?=some x→∃y,ys[i]?=some y∧F x y
 |_,_,_,_,.nil,e=>by simp at e
 |_,_,0,_,.cons r _,e=>by simp at e;subst e;exact ⟨_,rfl,r⟩
 |_,_,i+1,x,.cons _ t,e=>by
  obtain ⟨u,h1,h2⟩:=Paired.get (i:=i) (x:=x) t (by simpa using e)
  exact ⟨u,by simpa using h1,h2⟩
open Classical in
theorem eQ {α:Type} {xs ys:List α} {e:Nat→Bool} (hl:xs.length=ys.length) (h: ∀j a b,xs[j]?=some a→ys[j]?=some b→e j=decide (a=b)):(List.range xs.length).all e=decide (xs=ys):=by
 rw [Bool.eq_iff_iff,List.all_eq_true,decide_eq_true_eq]
 constructor
 ·
  intro q
  refine List.ext_getElem hl fun j h1 h2=>?_
  have:=q j (List.mem_range.mpr h1)
  rw [h j xs[j] ys[j] (by simp [h1]) (by simp [h2]),decide_eq_true_eq] at this
  exact this
 ·
  rintro rfl j hj
  have hj':=List.mem_range.mp hj
  rw [h j xs[j] xs[j] (by simp [hj']) (by simp [hj']),decide_eq_true_eq]
section
variable {X:Cx} {pins:List (Addr×Obj)} {σ:St} {H:Hp} {s:Shared}
open Classical in
theorem cx {F G:V→Dt→Prop}: ∀{xs:List V} {ds es:List Dt},Paired F xs ds→Paired G xs es→(∀x d e,F x d→G x e→d=e)→ds=es
 |_,_,_,.nil,.nil,_=>rfl
 |_,_,_,.cons r t,.cons r' t',f=>by rw [f _ _ _ r r',cx t t' f]
theorem b_ {a:Addr} {xs ys:List V} (I:Inv X pins σ H s) (h:aF X.K H a xs) (h':bV X.K H a ys):False:=by
 obtain ⟨its,_,p,_⟩:=I.list h
 obtain ⟨its',_,p',_⟩:=I.tuple h'
 obtain ⟨o,n,e,c,_⟩:=p
 obtain ⟨o',e',c',_⟩:=p'
 rw [e] at e'
 cases e'
 rw [c] at c'
 injection c' with z
 exact absurd z (by decide)
theorem gr {its its2:List Value} (h: ¬its.length=its2.length):(its.toArray.size != its2.toArray.size)=true:=by
 rw [List.size_toArray,List.size_toArray,bne_iff_ne]
 exact h
open Classical in
open Classical in
theorem cj {ds es:List Dt} {n:Nat} (hn:n=ds.length) (hl:ds.length=es.length):(List.range n).all (fun j=>decide (ds[j]?=es[j]?))=decide (ds=es):=by
 subst hn
 exact eQ hl fun j a b ha hb=>by
  rw [ha,hb,Bool.eq_iff_iff,decide_eq_true_eq,decide_eq_true_eq]
  exact ⟨fun q=>Option.some.inj q,fun q=>by rw [q]⟩
open Classical in
end
def h9 (K:PySem.W.Frag) (neg:Bool):R2:=fun x y H Q=>match x,y with
 | .ref a,.ref b=> ∃n d e,n≤60∧Den K H n (.ref a) d∧Den K H n (.ref b) e∧((d=e∧Q (.bl (!neg)) H)∨(d≠e∧Q (.bl neg) H))
 |x,y=>scal x y=true∧Q (.bl (if neg then !decide (x=y) else decide (x=y))) H
section
variable {X:Cx}
open Classical in
open Classical in
end
section
variable {K:PySem.W.Frag} {H:Hp} {Q:VK}
theorem i_ {i j:Int}:h9 K false (.int i) (.int j) H Q=Q (.bl (decide (i=j))) H:=by
 show (scal (.int i) (.int j)=true∧Q (.bl (if false=true then _ else decide (V.int i=V.int j))) H)=_
 rw [if_neg Bool.false_ne_true]
 exact ef
theorem i1 {i j:Int}:h9 K true (.int i) (.int j) H Q=Q (.bl (!decide (i=j))) H:=by
 show (scal (.int i) (.int j)=true∧Q (.bl (if true=true then !decide (V.int i=V.int j) else _)) H)=_
 rw [if_pos rfl]
 exact ed
theorem i9 {i j:Str}:h9 K false (.str i) (.str j) H Q=Q (.bl (decide (i=j))) H:=by
 show (scal (.str i) (.str j)=true∧Q (.bl (if false=true then _ else decide (V.str i=V.str j))) H)=_
 rw [if_neg Bool.false_ne_true]
 exact ee
theorem i0 {i j:Str}:h9 K true (.str i) (.str j) H Q=Q (.bl (!decide (i=j))) H:=by
 show (scal (.str i) (.str j)=true∧Q (.bl (if true=true then !decide (V.str i=V.str j) else _)) H)=_
 rw [if_pos rfl]
 exact d_
theorem ke {i j:Bool}:h9 K false (.bl i) (.bl j) H Q=Q (.bl (decide (i=j))) H:=by
 show (scal (.bl i) (.bl j)=true∧Q (.bl (if false=true then _ else decide (V.bl i=V.bl j))) H)=_
 rw [if_neg Bool.false_ne_true]
 exact fS
theorem j0 {i j:Bool}:h9 K true (.bl i) (.bl j) H Q=Q (.bl (!decide (i=j))) H:=by
 show (scal (.bl i) (.bl j)=true∧Q (.bl (if true=true then !decide (V.bl i=V.bl j) else _)) H)=_
 rw [if_pos rfl]
 exact fK
end
noncomputable def og (osc scope:Scope) (ON N:List Str) (nv:Nat) (ix:List Nat):Bool:=
 scope.kind == .function&&scope.names.all (fun y=>y.2 != .cell&&(y.2 != .local||scope.names.lookup y.1 == some .local)&&(y.2 != .free||(osc.names.lookup y.1 == some .cell||osc.names.lookup y.1 == some .free)))&&
  N.length == nv+ix.length&&(List.range ix.length).all fun j=>match N[nv+j]?,ix[j]? with
   |some y,some i=>ON[i]? == some y&&(osc.names.lookup y == some .cell||osc.names.lookup y == some .free)&&scope.names.lookup y == some .free
   |_,_=>false
theorem fi {X:Cx} {scope:Scope} {N:List Str} {nv:Nat} {ix:List Nat} (h:og X.env.scope scope X.N N nv ix=true):dE X scope N nv ix:=by
 unfold og at h
 simp only [Bool.and_eq_true,beq_iff_eq,List.all_eq_true,List.mem_range,Bool.or_eq_true,bne_iff_ne,ne_eq] at h
 obtain ⟨⟨⟨h1,h2⟩,h3⟩,h4⟩:=h
 refine ⟨h1,fun y hy=>(h2 y hy).1.1,fun y hy hl=>?_,fun y hy hf=>?_,h3,fun j y e=>?_⟩
 ·
  rcases (h2 y hy).1.2 with z|z
  ·exact absurd hl z
  ·exact z
 ·
  rcases (h2 y hy).2 with z|z
  ·exact absurd hf z
  ·exact z
 ·have hj:j<ix.length:=by
   have:=(List.getElem?_eq_some_iff.mp e).1
   omega
  have q:=h4 j hj
  rw [e,List.getElem?_eq_getElem hj] at q
  simp only [Bool.and_eq_true,beq_iff_eq,Bool.or_eq_true] at q
  exact ⟨ix[j],List.getElem?_eq_getElem hj,q.1.1,q.1.2,q.2⟩
def o9 (K:PySem.W.Frag) (vs:List V):TE:=fun _ H Q=> ∀a,(∀H,bV K H a vs)→(∀H,lA K "tuple" (.ref a) H)→Q (.ref a) H
theorem c5 (bs:List Bool):(List.range bs.length).all (fun i=>bs.getD i false)=bs.all id:=by
 rw [Bool.eq_iff_iff,List.all_eq_true,List.all_eq_true]
 constructor
 ·
  intro h b hb
  obtain ⟨i,hi,rfl⟩:=List.getElem_of_mem hb
  have:=h i (List.mem_range.mpr hi)
  simpa [List.getD,hi] using this
 ·
  intro h i hi
  have hi':=List.mem_range.mp hi
  have:=h bs[i] (List.getElem_mem hi')
  simpa [List.getD,hi'] using this
section
variable {X:Cx}
def jd (K:PySem.W.Frag) (any:Bool):List V→Hp→VK→Prop:=fun xs H Q=>match xs with
 | [.ref p]=> ∃bs:List Bool,aF K H p (bs.map V.bl)∧Q (.bl (if any then bs.any id else bs.all id)) H
 |_=>False
theorem eW {prog:Program} {w:World} {A:Around} {bs:List Bool} {its:List Value} (r:Vals (bs.map V.bl) its):TruthOf prog w A (fun i v=>its.toArray[i]?=some v) (fun i=>bs.getD i false):=by
 intro i v s Q E hP hQ
 have hP':its[i]?=some v:=by simpa using hP
 have hi:i<bs.length:=by
  have:=(List.getElem?_eq_some_iff.mp hP').1
  have l:=r.length
  rw [List.length_map] at l
  omega
 obtain ⟨u,hu,ru⟩:=r.get (i:=i) (x:= .bl bs[i]) (by rw [List.getElem?_map,List.getElem?_eq_getElem hi];rfl)
 rw [hP'] at hu
 cases hu
 cases ru
 have e:bs.getD i false=bs[i]:=by simp [List.getD,hi]
 replace hQ:Q (bs.getD i false) s:=hQ
 rw [e] at hQ
 exact wpAny_truthy_bool hQ
theorem jD (hc:X.calm=true):aK X (.builtin "all") (jd X.K false):=by
 intro pins s σ H xs us Q I rs q
 unfold jd at q
 split at q
 ·
  rename_i p
  obtain ⟨u,rfl,ru⟩:=vals1 rs
  cases ru
  obtain ⟨bs,hS,q⟩:=q
  obtain ⟨its,r,pl,hz⟩:=I.list hS
  have hlt:p<s.heap.objs.size:=by obtain ⟨o,e,_⟩:=pl.isList;exact Heap.lt_size e
  have hlen:=r.length
  rw [List.length_map] at hlen
  refine call_all_walk (wpAny_pyIter_list pl.isList ⟨s.heap.objs.size,_,_,_,_,_,_,rfl,Walks.list (A:=X.A.in1) (I.ok.hd hc) s.heap.objs.size p (Nat.ne_of_lt hlt) its.toArray,⟨⟨_,Heap.get?_push_size _ rfl,rfl,rfl⟩,pl.isList.push _⟩,eW r,fun h' tk hk=>?_⟩)
  refine ⟨.bl _,H,I.kept (h':=h') (t':=tk) fun b o e=>hk b o (fun z=>gE e (Nat.le_refl _) (List.mem_singleton.mp z)) (Heap.get?_push_of_some _ e),?_,q⟩
  rw [List.size_toArray,←hlen,c5]
  rfl
 ·exact q.elim
def oG (K:PySem.W.Frag):List V→Hp→VK→Prop:=fun xs H Q=>match xs with
 | [.ref p]=> ∃ns:List Int,aF K H p (ns.map V.int)∧Q (.int ns.sum) H
 |_=>False
theorem jc {K:PySem.W.Frag} {p:Addr} {H:Hp} {Q:VK}:jd K false [.ref p] H Q=(∃bs:List Bool,aF K H p (bs.map V.bl)∧Q (.bl (bs.all id)) H):=rfl
theorem jb {K:PySem.W.Frag} {p:Addr} {H:Hp} {Q:VK}:jd K true [.ref p] H Q=(∃bs:List Bool,aF K H p (bs.map V.bl)∧Q (.bl (bs.any id)) H):=rfl
theorem iW {K:PySem.W.Frag} {p:Addr} {H:Hp} {Q:VK}:oG K [.ref p] H Q=(∃ns:List Int,aF K H p (ns.map V.int)∧Q (.int ns.sum) H):=rfl
def dj (K:PySem.W.Frag):List V→Hp→VK→Prop:=fun xs H Q=>match xs with
 | [.ref p]=> ∃ys,(aF K H p ys∨bV K H p ys)∧∀l,H l=none→Q (.ref l) (upd H l (.lst ys))
 |_=>False
theorem gg:aK X (.type "list") (dj X.K):=aK.imp eJ fun xs H Q h=>by
 unfold dj at h
 split at h
 ·
  obtain ⟨ys,h1,h2⟩:=h
  exact ⟨_,ys,rfl,h1,h2⟩
 ·exact h.elim
def jX (K:PySem.W.Frag):List V→Hp→VK→Prop:=fun xs H Q=>match xs with
 | [.ref p]=> ∃ys,(aF K H p ys∧∀l,H l=none→Q (.ref l) (upd H l (.tup ys)))∨(bV K H p ys∧Q (.ref p) H)
 |_=>False
theorem fM {K:PySem.W.Frag} {p:Addr} {H:Hp} {Q:VK}:dj K [.ref p] H Q=(∃ys,(aF K H p ys∨bV K H p ys)∧∀l,H l=none→Q (.ref l) (upd H l (.lst ys))):=rfl
theorem eZ {K:PySem.W.Frag} {p:Addr} {H:Hp} {Q:VK}:jX K [.ref p] H Q=(∃ys,(aF K H p ys∧∀l,H l=none→Q (.ref l) (upd H l (.tup ys)))∨(bV K H p ys∧Q (.ref p) H)):=rfl
def ja:List V→Hp→VK→Prop:=fun xs H Q=>match xs with
 | [.int i,.int j]=>k6 i j∧∀p,H p=none→Q (.ref p) (upd H p (.tup [.int (i / j),.int (i % j)]))
 |_=>False
theorem eg {i j:Int} {H:Hp} {Q:VK}:ja [.int i,.int j] H Q=(k6 i j∧∀p,H p=none→Q (.ref p) (upd H p (.tup [.int (i / j),.int (i % j)]))):=rfl
def bZ:V→List V→Hp→VK→Prop:=fun x vs H Q=>match x,vs with
 | .ref l,[y]=> ∃xs,H l=some (.lst xs)∧xs.length<sizeLine∧Q .non (upd H l (.lst (xs++ [y])))
 |_,_=>False
theorem fW:oV X "list.append" bZ:=by
 intro pins s σ H x xs v us Q I rx rs q
 unfold bZ at q
 split at q
 ·
  obtain ⟨ys,h1,h2,h3⟩:=q
  exact il pins s σ H _ _ v us Q I rx rs ⟨_,ys,_,rfl,rfl,h1,h2,h3⟩
 ·exact q.elim
theorem ig {o e:Expr} {to te:TE} {apos cpos:Pos} (ho:PE X o to) (he:PE X e te) (hbase:attributeBase o "append" X.env (eval o X.env)=eval o X.env:=by rfl)
  (
   hfew:((backTo cpos (starEach [e] X.env)).all (fun x=>!x.1)&&(backToKw cpos (keywordEach [] X.env)).all (fun x=>x.1.isSome)
   &&decide ([e].length+([]:List Keyword).length+(if ([]:List Keyword).isEmpty then 0 else 1)<30))=true:=by rfl)
  (hline:(apos.endLine == cpos.line)=true:=by rfl) (hs:starEach [e] X.env=(false,eval e X.env)::starEach [] X.env:=by rfl) (hplain:(backTo cpos (starEach [] X.env)).any (·.1)=false:=by rfl):
  PE X (.Call (.Attribute o "append" apos) [e] [] cpos) (oq X.K "list" bZ to (ck te fB)):=
 nN F.plainAttrs_list F.slot_list_append F.type_list_append fW ho (gA he ag hs) hbase hfew hline hs hplain
theorem bW {K:PySem.W.Frag} {a:Addr} {xs:List V} {H:Hp} (h:aF K H a xs):lA K "list" (.ref a) H:= .inl ⟨rfl,xs,h⟩
theorem eh {l:Addr} {y:V} {H:Hp} {Q:VK}:bZ (.ref l) [y] H Q=(∃xs,H l=some (.lst xs)∧xs.length<sizeLine∧Q .non (upd H l (.lst (xs++ [y])))):=rfl
def ny:V→V→V→Hp→(Hp→Prop)→Prop:=fun o i v H Q=>match o,i with
 | .ref p,.int k=> ∃xs j,H p=some (.lst xs)∧kF xs.length k=some j∧Q (upd H p (.lst (xs.set j v)))
 |_,_=>False
theorem hG {p:Addr} {k:Int} {v:V} {H:Hp} {Q:Hp→Prop}:ny (.ref p) (.int k) v H Q=(∃xs j,H p=some (.lst xs)∧kF xs.length k=some j∧Q (upd H p (.lst (xs.set j v)))):=rfl
def i2 (K:PySem.W.Frag):R2:=fun x y H Q=>match x,y with
 | .ref p,.int i=> ∃xs v,(aF K H p xs∨bV K H p xs)∧iK xs i=some v∧Q v H
 | .str z,.int i=> ∃c,z.length≤sizeLine∧iK z.cps.toList i=some c∧Q (.str ⟨#[c]⟩) H
 |_,_=>False
theorem gm.imp {r r':R2} (h:gm X r) (i: ∀x y H Q,r' x y H Q→r x y H Q):gm X r':=fun value slice pins s σ H x y v u Q I rx ry q hs=>h value slice pins s σ H x y v u Q I rx ry (i _ _ _ _ q) hs
theorem oM:gm X (i2 X.K):=gm.imp mF fun x y H Q h=>by
 unfold i2 at h
 split at h
 ·
  obtain ⟨xs,v,h1,h2,h3⟩:=h
  rcases h1 with h1|h1
  ·exact .inl ⟨_,xs,_,v,rfl,rfl,h1,h2,h3⟩
  ·exact .inr (.inl ⟨_,xs,_,v,rfl,rfl,h1,h2,h3⟩)
 ·
  obtain ⟨c,h1,h2,h3⟩:=h
  exact .inr (.inr ⟨_,_,c,rfl,rfl,h1,h2,h3⟩)
 ·exact h.elim
theorem dy {K:PySem.W.Frag} {p:Addr} {i:Int} {H:Hp} {Q:VK} {xs:List V} {v:V} (h:aF K H p xs) (e:iK xs i=some v) (q:Q v H):i2 K (.ref p) (.int i) H Q:=⟨xs,v,.inl h,e,q⟩
theorem jn {K:PySem.W.Frag} {H:Hp} {a:Addr} {ns:List Int} {k:Int} {Q:VK} (hS:aF K H a (ns.map V.int)) (h0:0≤k) (h1:k<(ns.length:Int)) (q:Q (.int (ns.getD k.toNat 0)) H):i2 K (.ref a) (.int k) H Q:=by
 refine dy hS ?_ q
 obtain ⟨j,rfl⟩: ∃j:Nat,k=(j:Int):=⟨k.toNat,by omega⟩
 refine kW ?_
 have hj:j<ns.length:=by omega
 rw [List.getElem?_map,List.getElem?_eq_getElem hj]
 simp [List.getD,hj]
end
section
variable {K:PySem.W.Frag} {H:Hp} {σ:St}
theorem js {n:Nat} {t:jJ} {a:Addr} {Q:St→Hp→Prop}:oO K n t (.ref a) σ H Q=(∃xs,bV K H a xs∧xs.length=n∧t xs σ H Q):=by
 apply propext
 constructor
 ·
  rintro ⟨b,xs,e,h⟩
  cases e
  exact ⟨xs,h⟩
 ·
  rintro ⟨xs,h⟩
  exact ⟨a,xs,rfl,h⟩
theorem fY {t:TG} {u:jJ} {v:V} {r:List V} {Q:St→Hp→Prop}:n3 t u (v::r) σ H Q=t v σ H fun σ' H'=>u r σ' H' Q:=by
 apply propext
 constructor
 ·
  rintro ⟨v',r',e,h⟩
  cases e
  exact h
 ·
  intro h
  exact ⟨v,r,rfl,h⟩
theorem jt {Q:St→Hp→Prop}:oQ [] σ H Q=Q σ H:=by
 apply propext
 exact ⟨fun h=>h.2,fun h=>⟨rfl,h⟩⟩
theorem mK {i:Int} {P:Int→Prop}:(∃k,V.int i = .int k∧P k)=P i:=by
 apply propext
 constructor
 ·
  rintro ⟨k,e,q⟩
  cases e;exact q
 ·intro q;exact ⟨i,rfl,q⟩
theorem fH {n:Nat} (h:n≤1000):(n≤sizeLine)=True:=by
 have:=sizeLine_eq
 simp only [eq_iff_iff,iff_true]
 omega
theorem iR {n:Nat} (h:n≤1000):(n<sizeLine)=True:=by
 have:=sizeLine_eq
 simp only [eq_iff_iff,iff_true]
 omega
end
section
variable {X:Cx} (K:PySem.W.Frag) (h:X.K=K)
theorem bA (h:X.K=K):cf X (binaryOp .Add) (fb K):=h▸ku
theorem aY (h:X.K=K):aK X (.builtin "len") (e6 K):=h▸iH
theorem cg (h:X.K=K):aK X (.builtin "isinstance") (cY K):=h▸jC
theorem oE (h:X.K=K):gU X (jY K):=h▸oF
theorem kA (h:X.K=K):gm X (i2 K):=h▸oM
theorem cG {tg l:Expr} {tl:TE} (h:X.K=K) (hl:PE X l tl):PI X tg l (kK K tl):=h▸lY hl
theorem iI (h:X.K=K) (hc:X.calm=true):aK X (.builtin "all") (jd K false):=h▸jD hc
theorem cz (h:X.K=K):aK X (.type "list") (dj K):=h▸gg
theorem cw {o e:Expr} {to te:TE} {apos cpos:Pos} (h:X.K=K) (ho:PE X o to) (he:PE X e te) (hbase:attributeBase o "append" X.env (eval o X.env)=eval o X.env:=by rfl)
  (
   hfew:((backTo cpos (starEach [e] X.env)).all (fun x=>!x.1)&&(backToKw cpos (keywordEach [] X.env)).all (fun x=>x.1.isSome)
   &&decide ([e].length+([]:List Keyword).length+(if ([]:List Keyword).isEmpty then 0 else 1)<30))=true:=by rfl)
  (hline:(apos.endLine == cpos.line)=true:=by rfl) (hs:starEach [e] X.env=(false,eval e X.env)::starEach [] X.env:=by rfl) (hplain:(backTo cpos (starEach [] X.env)).any (·.1)=false:=by rfl):
  PE X (.Call (.Attribute o "append" apos) [e] [] cpos) (oq K "list" bZ to (ck te fB)):=h▸ig ho he hbase hfew hline hs hplain
end
noncomputable def isStar:Expr→Bool
 | .Starred .. =>true
 |_=>false
theorem aS {e:Expr} {es:List Expr} {env:Env} (h:isStar e=false):starEach (e::es) env=(false,eval e env)::starEach es env:=by
 cases e<;>first|rfl|exact absurd h (by simp [isStar])
theorem cI {pos:Pos} {env:Env}: ∀{es:List Expr},es.any isStar=false→(backTo pos (starEach es env)).any (·.1)=false
 | [],_=>rfl
 |e::es,h=>by
  rw [List.any_cons,Bool.or_eq_false_iff] at h
  rw [aS h.1]
  show (false||(backTo pos (starEach es env)).any (·.1))=false
  rw [cI h.2]
  rfl
noncomputable def bp:Expr→Bool
 | .UnaryOp .Not _ _=>false
 | .BoolOp .. =>false
 | .IfExp .. =>false
 | .Compare .. =>false
 |_=>true
theorem iz {e:Expr} {env:Env} (h:bp e=true) (whole:Sem Value):isTrue e env whole=(do let v←whole;standAt e.pos;holding [v] (truthy v)):=by
 cases e with
 |UnaryOp op a p=>cases op<;>first|rfl|exact absurd h (by simp [bp])
 |BoolOp=>exact absurd h (by simp [bp])
 |IfExp=>exact absurd h (by simp [bp])
 |Compare=>exact absurd h (by simp [bp])
 |_=>rfl
section
variable {X:Cx} {CX:cB} {k n:Nat} {ps:List Str} {sp:Sp} {x:Str} {p pos:Pos} {e:Expr} {es:List Expr} {t:TA} {te:TE} {id T:String} {r:List V→Hp→VK→Prop}
theorem ao (ha:PE X e te) (hr:PA X es t) (h:isStar e=false:=by rfl):PA X (e::es) (ck te t):=gA ha hr (aS h)
theorem aE [Quiet CX] (G:FnAt X.prog X.w X.K X.mg X.base CX x k ps sp) (hr:bb n X.A) (hk:k≤n) (hg:Gl X x) (ha:PA X (e::es) t)
  (hdb:(x == ("__debug__" : Str))=false:=by decide) (h:(e::es).any isStar=false:=by rfl):PE X (.Call (.Name x p) (e::es) [] pos) (dR sp [] E0 t):=by
 rw [List.any_cons,Bool.or_eq_false_iff] at h
 exact nL G hr hk hg ha hdb (aS h.1) (cI h.2)
theorem az (hc:aK X (.builtin id) r) (hg:Gl X x) (hm:X.mg x=none) (hv:bootBuiltins x=some (.builtin id)) (ha:PA X (e::es) t) (hn:x≠ "__name__" :=by decide) (hdb:(x == ("__debug__" : Str))=false:=by decide)
  (h:(e::es).any isStar=false:=by rfl):PE X (.Call (.Name x p) (e::es) [] pos) (mY r t):=by
 rw [List.any_cons,Bool.or_eq_false_iff] at h
 exact jh hc hg hm hv ha hn hdb (aS h.1) (cI h.2)
theorem cv (hc:aK X (.type T) r) (hg:Gl X x) (hm:X.mg x=none) (hv:bootBuiltins x=some (.type T)) (ha:PA X (e::es) t) (hn:x≠ "__name__" :=by decide) (hdb:(x == ("__debug__" : Str))=false:=by decide)
  (h:(e::es).any isStar=false:=by rfl):PE X (.Call (.Name x p) (e::es) [] pos) (mY r t):=by
 rw [List.any_cons,Bool.or_eq_false_iff] at h
 exact ie hc hg hm hv ha hn hdb (aS h.1) (cI h.2)
theorem ib (he:PE X e te) (h:bp e=true:=by rfl):PT X e (tB te):=lW he (iz h)
end
noncomputable def eG:Expr→Bool
 | .ListComp .. =>true
 | .SetComp .. =>true
 | .DictComp .. =>true
 |_=>false
theorem eX {e:Expr} {tg:Option Expr} {l:Nat} {env:Env} (h:eG e=false):swapsWith e tg l env=pure false:=by
 cases e<;>first|rfl|exact absurd h (by simp [eG])
section
variable {X:Cx} {pos:Pos}
theorem aM {i:Nat} {x:Str} {e:Expr} {te:TE} {pos':Pos} (hN:X.N.Nodup) (hi:X.N[i]?=some x) (hx:Loc X.env.scope x) (he:PE X e te) (h:eG e=false:=by rfl) (hf:X.fn x=true∨X.env.scope.names.lookup x=some .local:=by first|exact .inl rfl|exact .inr rfl|assumption):
  PS X (.Assign [.Name x pos'] e pos) (jV te (cK i)):=lX hN hi hx he (eX h) hf
theorem cF {e:Expr} {te:TE} (he:PE X e te) (h:eG e=false:=by rfl):PS X (.Expr e pos) (gn te):=kj he (eX h)
end
def pj (vs:List V):TA:=fun _ H Q=>Q vs H
end L2
namespace BitM
end BitM
namespace Rem
end Rem
namespace BitI
open PySem L2
end BitI
namespace Com
open PySem L2
theorem ak {H:Hp} {p:Addr} {o:HO} (h:H p=none):aC H (upd H p o):=fun b u e=>by rw [aa (av e h)];exact e
theorem jy {ns:List Int} {lo hi:Option Int}:dI (ns.map V.int) lo hi=((ns.drop (HT.aV ns.length 0 lo)).take (HT.aV ns.length ns.length hi - HT.aV ns.length 0 lo)).map V.int:=by
 unfold dI
 rw [List.length_map,List.map_take,List.map_drop]
theorem a8 {H:Hp} {p q:Addr} {o x:HO} (h:H p=some x) (hn:H q=none):upd H q o p=some x:=by rw [aa (av h hn)];exact h
theorem aI {n:Nat} (h:n≤1000):n≤sizeLine:=by rw [sizeLine_eq];omega
theorem df {H H':Hp} {p:Addr} {o:HO} (hs:aC H H') (hp:H p=none):aC H (upd H' p o):=fun b u e=>by rw [aa (av e hp)];exact hs b u e
theorem jo {K:PySem.W.Frag} {H:Hp} {a:Addr} {xs:List V} {Q:VK} (h:H a=some (.lst xs)) (q:Q (.bl true) H):cY K [.ref a,.ty "list"] H Q:=⟨_,true,.lst h,mj K,q⟩
theorem kG {K:PySem.W.Frag} {H:Hp} {a:Addr} {xs:List V} {Q:VK} (h:H a=some (.tup xs)) (q:Q (.bl true) H):cY K [.ref a,.ty "tuple"] H Q:=⟨_,true,.tup h,mf K,q⟩
theorem fresh_ne {H:Hp} {p q:Addr} {o:HO} (h:upd H p o q=none):q≠p:=fun e=>by
 subst e
 rw [af] at h
 cases h
theorem iC {H:Hp} {p q:Addr} {o:HO} (h:upd H p o q=none):H q=none:=by
 rw [aa (fresh_ne h)] at h
 exact h
end Com
namespace L2
open PySem PySem.Spec PyProof.Rows
section
variable {P:Program} {w:World} {K:PySem.W.Frag} {mg:Str→Option Value} {base:Heap} {CX:cB}
end
def pk (C:Addr) (m:Str) (x:V) (H:Hp) (N:Prop):Prop:= ∃a,x = .ref a∧∃dx fs,H a=some (.ins C dx fs)∧fs.lookup m=none∧N
section
variable {X:Cx} {C:Addr} {o e value:Expr} {es:List Expr} {f m x:Str} {p pos pos' tpos apos:Pos} {ta tv:TE} {t:TA} {k n:Nat} {ps:List Str} {sp:Sp}
end
theorem jI {α:Type} {xs:List α} {i:Nat} {x:α} (h:xs[i]?=some x):iK xs (i:Int)=some x:=by
 have hl:i<xs.length:=(List.getElem?_eq_some_iff.mp h).1
 unfold iK kF
 rw [if_pos (by omega),if_pos (by omega)]
 exact h
end L2
namespace MeterM
end MeterM
namespace WaysM
end WaysM
namespace L2
open PySem PySem.Spec PyProof.Rows
end L2
namespace L2
end L2
namespace WaysI
open PySem L2
end WaysI
namespace L2
open PySem PySem.Spec PyProof.Rows
section
variable {X:Cx} {i o e value:Expr} {ti to te tv:TE} {pos pos' apos cpos:Pos}
end
section
variable {X:Cx} {K:PySem.W.Frag}
end
section
variable {X:Cx} {a b c d:Expr} {ta tb tc td:TE} {pos:Pos}
end
section
variable {X:Cx} {i o e value:Expr} {ti to te tv:TE} {pos pos' apos cpos:Pos}
end
section
variable {X:Cx} {pins:List (Addr×Obj)} {σ:St} {H:Hp} {s:Shared} {h':Heap}
end
section
variable {X:Cx} {elts:List Expr} {x1:_} {tpos:Pos}
end
section
variable {K:PySem.W.Frag} {g:TG} {tb:TS} {D:Ends} {σ:St} {H:Hp} {ta:TA}
end
section
variable {X:Cx} {o e f:Expr} {to te tf:TE} {apos cpos:Pos}
end
section
variable {X:Cx} {pos:Pos}
end
section
variable {X:Cx} {elts:List Expr} {x1:_} {tpos:Pos}
end
section
variable {nv:Nat} {ix:List Nat} {g:TG} {tt:TT} {te:TE} {tb:TS} {D:Ends} {σ:St} {H:Hp} {ta:TA} {Q:VK}
end
section
variable {K:PySem.W.Frag} {g:TG} {tt:TT} {te:TE} {H:Hp} {σ:St} {Q:List V→Hp→Prop}
theorem jB {J:It} {n:Nat} (Pv:Nat→List V→St→Hp→Prop) (h0:Pv 0 [] σ H) (hz:n≤sizeLine) (hl: ∀i ys σ H,Pv i ys σ H→ys.length≤i) (go: ∀i ys σ H,i<n→Pv i ys σ H→J.go i H) (stop: ∀ys σ H,Pv n ys σ H→J.stop n H)
  (step: ∀i ys σ H x H'',i<n→Pv i ys σ H→J.yld i H x H''→g x σ H'' fun σ2 H2=>tt σ2 H2 fun b H3=>if b=true then te σ2 H3 fun y H4=>Pv (i+1) (ys++ [y]) σ2 H4 else Pv (i+1) ys σ2 H3) (q: ∀ys σ H,Pv n ys σ H→Q ys H):bK J g tt te σ H Q:=by
 refine ⟨fun i m ys σ' H'=>i≤n∧m=n - i∧Pv i ys σ' H',⟨n,Nat.zero_le _,rfl,h0⟩,?_⟩
 rintro i m ys σ' H' ⟨hi,rfl,hp⟩
 by_cases e:i=n
 ·
  subst e
  exact .inl ⟨stop _ _ _ hp,q _ _ _ hp⟩
 ·
  have hlt:i<n:=by omega
  refine .inr ⟨go i _ _ _ hlt hp,by have:=hl _ _ _ _ hp;omega,fun ys' σ'' H''=>Pv (i+1) ys' σ'' H'',fun ys' σ'' H'' p'=>⟨n - (i+1),by omega,by omega,rfl,p'⟩,fun x H'' y=>step i ys σ' H' x H'' hlt hp y⟩
theorem kR {lo:Int} {n:Nat} (Pv:Nat→List V→St→Hp→Prop) (h0:Pv 0 [] σ H) (hz:n≤sizeLine) (hl: ∀i ys σ H,Pv i ys σ H→ys.length≤i)
  (step: ∀(i:Nat) ys σ H,i<n→Pv i ys σ H→g (.int (lo+i)) σ H fun σ2 H2=>tt σ2 H2 fun b H3=>if b=true then te σ2 H3 fun y H4=>Pv (i+1) (ys++ [y]) σ2 H4 else Pv (i+1) ys σ2 H3) (q: ∀ys σ H,Pv n ys σ H→Q ys H):bK (iL lo n) g tt te σ H Q:=by
 refine jB Pv h0 hz hl (fun i _ _ _ hi _=>hi) (fun _ _ _ _=>Nat.le_refl _) (fun i ys σ H x H'' hi hp y=>?_) q
 obtain ⟨e,rfl⟩:=y
 subst e
 exact step i ys σ _ hi hp
theorem fj {a:Addr} {xs:List V} (hS:aF K H a xs) (hz:xs.length≤sizeLine) (Pv:Nat→List V→St→Hp→Prop) (h0:Pv 0 [] σ H) (hl: ∀i ys σ H,Pv i ys σ H→ys.length≤i) (hk: ∀i ys σ H,Pv i ys σ H→aF K H a xs)
  (step: ∀(i:Nat) x ys σ H,xs[i]?=some x→Pv i ys σ H→g x σ H fun σ2 H2=>tt σ2 H2 fun b H3=>if b=true then te σ2 H3 fun y H4=>Pv (i+1) (ys++ [y]) σ2 H4 else Pv (i+1) ys σ2 H3) (q: ∀ys σ H,Pv xs.length ys σ H→Q ys H):fI K (.ref a) H fun J H2=>bK J g tt te σ H2 Q:=by
 refine .inl ⟨xs,hS,jB (n:=xs.length) Pv h0 hz hl (fun i ys σ H hi hp=>⟨xs,xs[i],hk _ _ _ _ hp,by simp [hi]⟩) (fun ys σ H hp=>⟨xs,hk _ _ _ _ hp,Nat.le_refl _⟩) (fun i ys σ H x H'' hi hp y=>?_) q⟩
 obtain ⟨e,hx⟩:=y
 subst e
 exact step i x ys σ _ (hx xs (hk _ _ _ _ hp)) hp
end
def pA (h:Heap) (e:Addr) (cls:Value) (dx tb:Option Addr):Prop:=
 ∃oe vs,h.get? e=some oe∧oe.cls=cls∧oe.dict=dx∧oe.data = .fields vs∧1<vs.size∧(match tb with
  |none=>vs[1]?=some .none
  |some T=>vs[1]?=some (.ref T)∧T≠e∧∃oT ts,h.get? T=some oT∧oT.data = .fields ts∧ts[3]?=some .none)
section
variable {M:Model} {A:Around} {E:Value→Shared→Prop} {s:Shared}
end
def iM (P:Program) (w:World):cB:=fun outer H s E e s'=> ∃ea cls dx T H',e = .ref ea∧s'.os=s.os∧AllBare s'.gens∧Un (frs outer) [] H H' s.heap s'.heap∧c6 P w H' s'.heap∧pA s'.heap ea cls dx (some T)∧
 (s.heap.get? ea=none∧s.heap.get? T=none∧H' ea=none∧H' T=none)∧E cls dx H'
noncomputable instance {P:Program} {w:World}:Quiet (iM P w):=⟨fun X pins σ H s e s' I h=>by
 obtain ⟨_,_,_,_,_,_,_,_,_,_,_,_,h⟩:=h
 exact h.elim⟩
section
variable {P:Program} {w:World} {K:PySem.W.Frag} {mg:Str→Option Value} {base:Heap} {N:List Str} {qual:Str} {scope:Scope} {f:Addr} {cd:Value} {A:Around} {outer:List Env} {s:Shared} {H:Hp} {E:XK}
end
section
variable {X:Cx} {E:XK}
end
section
variable {X:Cx} {E:XK}
def jT (E:XK) (C:Addr):TS:=fun _ _ H=>E (.ref C) none H
end
section
variable {prog:Program} {w:World} {A:Around} {s:Shared} {K:PySem.W.Frag} {x C R:Addr} {cd:ClassData} {name:Str} {v:Value}
end
section
variable {prog:Program} {w:World} {A:Around} {E:Value→Shared→Prop} {h:Heap} {g:Array GenState} {d:Drawn} {t:Nat} {os:OsState} {K:PySem.W.Frag}
variable {nm q:Str} {C N:Addr} {bs bm:List Value} {hdct:Bool} {sn:List Str} {sub:List Value} {ab:Bool} {col:Option Bool} {dd:Option Addr} {k0 k1 k2 k3 k5:Option Value}
end
def ow (e C:Addr) (dx:Option Addr):Heap→Prop:=fun h=> ∃vs:Array Value,h.get? e=some ⟨.ref C,dx,.fields vs,#[]⟩∧1<vs.size∧vs[1]?=some .none
noncomputable def oa (H:Hp) (e:Addr):Hp:=fun b=>if b=e then none else H b
section
variable {X:Cx} {pins:List (Addr×Obj)} {σ:St} {H:Hp} {s:Shared} {h':Heap} {e C:Addr}
end
structure oi (K:PySem.W.Frag) (C:Addr) (f:Str):Prop where
 sa:PySem.W.findIn K (.ref C) "__setattr__" = some (some (.builtin "object.__setattr__"))
 no:PySem.W.findIn K (.ref C) f=some none
def nq (C:Addr) (ta tv:TE) (f:Str):TS:=fun D σ H=>tv σ H fun y H1=>ta σ H1 fun x H2=> ∃e,x = .ref e∧H2 e=some (.ext (ow e C none))∧∀dx,H2 dx=none→D.nx σ (upd (upd H2 dx (.xd [(f,y)])) e (.ext (ow e C (some dx))))
section
variable {X:Cx} {E:XK}
end
def jS (C:Addr) (sp:Sp) (E:XK) (ta:TA):TS:=fun _ σ H=>ta σ H fun vs H1=> ∀e,H1 e=none→sp (.ref e::vs) (upd H1 e (.ext (ow e C none))) (fun v H2=>v = .non∧∃dx,H2 e=some (.ext (ow e C dx))∧E (.ref C) dx (oa H2 e)) E0
section
variable {X:Cx} {E:XK}
end
def eT (e:Addr) (cls:Value) (dx:Option Addr):Heap→Prop:=fun h=> ∃oe vs,h.get? e=some oe∧oe.cls=cls∧oe.dict=dx∧oe.data = .fields vs
section
variable {X:Cx} {pins:List (Addr×Obj)} {σ:St} {H:Hp} {s:Shared} {h':Heap} {ea:Addr} {cls:Value} {dx tb:Option Addr}
end
section
variable {X:Cx} {pins pn:List (Addr×Obj)} {σ σ0:St} {H:Hp} {s:Shared} {E:XK}
end
def lF (σ0:St) (sp:Sp) (E:XK) (t:TA):TE:=fun σ H Q=>σ=σ0∧t σ H fun vs H1=>sp vs H1 Q E
def lC (σ0:St) (C:Addr) (sp:Sp) (E:XK) (t:TA):TE:=fun σ H Q=>σ=σ0∧t σ H fun vs H1=> ∀x dx,H1 x=none→H1 dx=none→dx≠x→
 sp (.ref x::vs) (upd (upd H1 dx (.own x)) x (.ins C dx [])) (fun v H2=>v = .non∧Q (.ref x) H2) E
def oC (σ0:St) (C:Addr) (m:Str) (sp:Sp) (E:XK) (ta:TE) (t:TA):TE:=fun σ H Q=>σ=σ0∧ta σ H fun x H1=>pk C m x H1 (t σ H1 fun vs H2=>sp (x::vs) H2 Q E)
section
variable {X:Cx} {CX:cB} {k n:Nat} {f C:Addr} {fd:FuncData} {ps:List Str} {sp:Sp} {E:XK} {x m:Str} {p pos apos:Pos} {e o:Expr} {es:List Expr} {ta:TE} {t:TA} {σ0:St}
end
noncomputable def isx (K:PySem.W.Frag) (cls:Value) (C:Addr):Option Bool:=match cls with
 | .ref D=>PySem.W.mroIn K D (.ref C)
 |_=>none
def oN (o:Option Bool) (p q:Prop):Prop:=match o with
 |some true=>p
 |some false=>q
 |none=>False
theorem nX {p q:Prop}:oN (some true) p q=p:=rfl
theorem nY {p q:Prop}:oN (some false) p q=q:=rfl
section
variable {prog:Program} {w:World} {A:Around} {E:Value→Shared→Prop} {s:Shared} {K:PySem.W.Frag}
end
section
variable {X:Cx} {pins:List (Addr×Obj)} {σ:St} {H:Hp} {s:Shared} {M:Model} {A:Around} {E:Value→Shared→Prop}
end
noncomputable abbrev TH:=Ends→St→Value→Option Addr→Hp→Prop
noncomputable def Ends.un (D:Ends) (i:Nat):Ends:={nx:=fun σ H=>D.nx (σ.set i none) H,rt:=D.rt,bk:=fun σ H=>D.bk (σ.set i none) H,ct:=fun σ H=>D.ct (σ.set i none) H}
def ph:TH:=fun _ _ _ _ _=>False
def pf (K:PySem.W.Frag) (C:Addr) (i:Nat) (th:TS) (tr:TH):TH:=fun D σ cls dx H=>oN (isx K cls C) (∀ea,H ea=none→th (D.un i) (σ.set i (some (.ref ea))) (upd H ea (.ext (eT ea cls dx)))) (tr D σ cls dx H)
def oA (tb:St→XK→TS) (th:TH):TS:=fun D σ H=>tb σ (fun cls dx H'=>th D σ cls dx H') D σ H
section
variable {X:Cx}
end
structure fu (K:PySem.W.Frag) (C:Addr):Prop where
 ga:PySem.W.findIn K (.ref C) "__getattribute__" = some (some (.builtin "BaseException.__getattribute__"))
 gh:PySem.W.findIn K (.ref C) "__getattr__" = some none
 bx:PySem.W.mroIn K C (.type "BaseException")=some true
 ob:PySem.W.mroIn K C (.type "object")=some true
 hd:PySem.W.hasDictIn K C=true
 kc:PySem.W.findIn K (.ref C) "__class__" = some (some (.builtin "object.__class__"))
 kg:PySem.W.specialIn K (.builtin "object.__class__") "__get__" = some (some (.builtin "getset_descriptor.__get__"))
 kt:PySem.W.takesIn K (.builtin "object.__class__")=some true
section
variable {prog:Program} {w:World} {A:Around} {s:Shared} {K:PySem.W.Frag} {x C:Addr} {ox:Obj} {od:Option Obj} {name:Str}
end
theorem gK {a:Addr} {c c':Value} {d d':Option Addr} (e:eT a c d=eT a c' d'):c=c'∧d=d':=by
 have h1:eT a c d {objs:=Array.replicate (a+1) ⟨c,d,.fields #[],#[]⟩}:=⟨⟨c,d,.fields #[],#[]⟩,#[],by unfold Heap.get?;simp,rfl,rfl,rfl⟩
 rw [e] at h1
 obtain ⟨oe,vs,e1,e2,e3,_⟩:=h1
 have e0:Heap.get? {objs:=Array.replicate (a+1) ⟨c,d,.fields #[],#[]⟩} a=some ⟨c,d,.fields #[],#[]⟩:=by unfold Heap.get?;simp
 rw [e0] at e1
 cases e1
 exact ⟨e2,e3⟩
theorem mL {a:Addr} {c:Value} {d:Addr} {N:Addr→Prop}:(∃dx,some (HO.ext (eT a c (some d)))=some (HO.ext (eT a c (some dx)))∧N dx)=N d:=by
 apply propext;constructor
 ·
  rintro ⟨dx,e,h⟩
  have e1:=Option.some.inj e
  injection e1 with e2
  obtain ⟨_,e3⟩:=gK e2
  cases e3
  exact h
 ·exact fun h=>⟨d,rfl,h⟩
theorem mM {a:Addr} {C:Addr} {d:Option Addr} {N:Addr→Option Addr→Prop}:(∃D dx,some (HO.ext (eT a (.ref C) d))=some (HO.ext (eT a (.ref D) dx))∧N D dx)=N C d:=by
 apply propext;constructor
 ·
  rintro ⟨D,dx,e,h⟩
  have e1:=Option.some.inj e
  injection e1 with e2
  obtain ⟨e3,e4⟩:=gK e2
  cases e3;cases e4
  exact h
 ·exact fun h=>⟨C,d,rfl,h⟩
theorem n5 {l:List (Str×V)} {N:List (Str×V)→Prop}:(∃fs,some (HO.xd l)=some (HO.xd fs)∧N fs)=N l:=by
 apply propext;constructor
 ·rintro ⟨fs,e,h⟩;cases e;exact h
 ·exact fun h=>⟨l,rfl,h⟩
def i6 (C:Addr) (f:Str) (x:V) (H:Hp) (Q:VK):Prop:= ∃a,x = .ref a∧∃dx,H a=some (.ext (eT a (.ref C) (some dx)))∧∃fs,H dx=some (.xd fs)∧∃v,fs.lookup f=some v∧Q v H
def nh (C:Addr) (f:Str) (ta:TE):TE:=fun σ H Q=>ta σ H fun x H1=>i6 C f x H1 Q
theorem h8 {C a:Addr} {f:Str} {H:Hp} {Q:VK}:i6 C f (.ref a) H Q= ∃dx,H a=some (.ext (eT a (.ref C) (some dx)))∧∃fs,H dx=some (.xd fs)∧∃v,fs.lookup f=some v∧Q v H:=by
 apply propext;unfold i6;constructor
 ·rintro ⟨b,e,h⟩;cases e;exact h
 ·exact fun h=>⟨a,rfl,h⟩
def fX (o:Option Bool) (N:Bool→Prop):Prop:=match o with
 |some b=>N b
 |none=>False
theorem iy {b:Bool} {N:Bool→Prop}:fX (some b) N=N b:=rfl
def eU (H:Hp):Option Addr→Prop
 |none=>True
 |some d=> ∃fs,H d=some (.xd fs)
theorem ly {H:Hp}:eU H none=True:=rfl
theorem lx {H:Hp} {d:Addr}:eU H (some d)= ∃fs,H d=some (.xd fs):=rfl
theorem mJ {l:List (Str×V)}:(∃fs,some (HO.xd l)=some (HO.xd fs))=True:=eq_true ⟨l,rfl⟩
def lg (K:PySem.W.Frag):List V→Hp→VK→Prop:=fun xs H Q=>match xs with
 | [.ref p,.ref C]=> ∃D dx,H p=some (.ext (eT p (.ref D) dx))∧fu K D∧eU H dx∧fX (PySem.W.kitOne K (.ref D) (.ref C)) fun b=>Q (.bl b) H
 | [.ref p,.ty n]=> ∃D dx,H p=some (.ext (eT p (.ref D) dx))∧fu K D∧eU H dx∧fX (PySem.W.kitOne K (.ref D) (.type n)) fun b=>Q (.bl b) H
 |_=>False
theorem hZ {K:PySem.W.Frag} {p C:Addr} {H:Hp} {Q:VK}:lg K [.ref p,.ref C] H Q= ∃D dx,H p=some (.ext (eT p (.ref D) dx))∧fu K D∧eU H dx∧fX (PySem.W.kitOne K (.ref D) (.ref C)) fun b=>Q (.bl b) H:=rfl
theorem i3 {K:PySem.W.Frag} {p:Addr} {n:String} {H:Hp} {Q:VK}:lg K [.ref p,.ty n] H Q= ∃D dx,H p=some (.ext (eT p (.ref D) dx))∧fu K D∧eU H dx∧fX (PySem.W.kitOne K (.ref D) (.type n)) fun b=>Q (.bl b) H:=rfl
section
variable {X:Cx} {e:Expr} {f x:Str} {C:Addr} {ta:TE} {pos:Pos}
end
section
variable {X:Cx} {CX:cB} {k n:Nat} {C R:Addr} {ps:List Str} {sp:Sp} {E:XK} {x m:Str} {p pos apos:Pos} {e o:Expr} {es:List Expr} {ta:TE} {t:TA} {st:Stmt} {ts:TS}
theorem PS.nox (h:PS X.nox st ts):PS X st ts:=fun pins s σ H D I hw=>
 wpAny_mono (h pins s σ H D (I.wish _) hw) (fun _ _ q=>q.unwish) fun _ _ z=>False.elim z
end
def Dn (K:PySem.W.Frag) (H:Hp):Nat→V→Dt→Prop
 |0,x,d=>(x = .non∧d = .non)∨(∃i,x = .int i∧d = .int i)∨(∃z,x = .str z∧d = .str z)∨(∃b,x = .bl b∧d = .int (if b then 1 else 0))
 |n+1,x,d=>Dn K H n x d∨(∃a xs ds,x = .ref a∧d = .l ds∧aF K H a xs∧Paired (Dn K H n) xs ds)∨(∃a xs ds,x = .ref a∧d = .t ds∧bV K H a xs∧Paired (Dn K H n) xs ds)
section
variable {X:Cx} {pins:List (Addr×Obj)} {σ:St} {H:Hp} {s:Shared}
open Classical in
theorem cM {i j:Int}:decide (Dt.int i=Dt.int j)=(i == j):=by
 rw [Bool.eq_iff_iff,decide_eq_true_eq,beq_iff_eq]
 exact ⟨fun q=>Dt.int.inj q,fun q=>by rw [q]⟩
theorem oh (a b:Bool):((if a then (1:Int) else 0) == (if b then 1 else 0))=(a == b):=by cases a<;>cases b<;>rfl
open Classical in
theorem kP {A:Around} {x y:V} {u v:Value} {d e:Dt} (rx:RelV x u) (ry:RelV y v) (hx:Dn X.K H 0 x d) (hy:Dn X.K H 0 y e):SeqAt.EqAt A s u v (decide (d=e)):=by
 rcases hx with ⟨rfl,rfl⟩|⟨i,rfl,rfl⟩|⟨i,rfl,rfl⟩|⟨i,rfl,rfl⟩<;>rcases hy with ⟨rfl,rfl⟩|⟨j,rfl,rfl⟩|⟨j,rfl,rfl⟩|⟨j,rfl,rfl⟩
 ·cases rx;cases ry;rw [decide_eq_true rfl];exact SeqAt.EqAt.same _
 ·cases rx;obtain ⟨t,rfl⟩:=ry;rw [decide_eq_false (fun z=>nomatch z)];exact SeqAt.EqAt.none_int _ _
 ·cases rx;obtain ⟨t,rfl⟩:=ry;rw [decide_eq_false (fun z=>nomatch z)];exact SeqAt.EqAt.none_str _ _
 ·cases rx;cases ry;rw [decide_eq_false (fun z=>nomatch z)];exact SeqAt.EqAt.none_bool _
 ·obtain ⟨t,rfl⟩:=rx;cases ry;rw [decide_eq_false (fun z=>nomatch z)];exact SeqAt.EqAt.int_none _ _
 ·obtain ⟨t,rfl⟩:=rx;obtain ⟨t',rfl⟩:=ry;rw [cM];exact SeqAt.EqAt.int_int _ _ _ _
 ·obtain ⟨t,rfl⟩:=rx;obtain ⟨t',rfl⟩:=ry;rw [decide_eq_false (fun z=>nomatch z)];exact SeqAt.EqAt.int_str _ _ _ _
 ·obtain ⟨t,rfl⟩:=rx;cases ry;rw [cM];exact SeqAt.EqAt.int_bool _ _ _
 ·obtain ⟨t,rfl⟩:=rx;cases ry;rw [decide_eq_false (fun z=>nomatch z)];exact SeqAt.EqAt.str_none _ _
 ·obtain ⟨t,rfl⟩:=rx;obtain ⟨t',rfl⟩:=ry;rw [decide_eq_false (fun z=>nomatch z)];exact SeqAt.EqAt.str_int _ _ _ _
 ·
  obtain ⟨t,rfl⟩:=rx;obtain ⟨t',rfl⟩:=ry
  have e:decide (Dt.str i=Dt.str j)=(i == j):=by
   rw [Bool.eq_iff_iff,decide_eq_true_eq,beq_iff_eq]
   exact ⟨fun q=>Dt.str.inj q,fun q=>by rw [q]⟩
  rw [e];exact SeqAt.EqAt.str_str _ _ _ _
 ·obtain ⟨t,rfl⟩:=rx;cases ry;rw [decide_eq_false (fun z=>nomatch z)];exact SeqAt.EqAt.str_bool _ _ _
 ·cases rx;cases ry;rw [decide_eq_false (fun z=>nomatch z)];exact SeqAt.EqAt.bool_none _
 ·cases rx;obtain ⟨t,rfl⟩:=ry;rw [cM];exact SeqAt.EqAt.bool_int _ _ _
 ·cases rx;obtain ⟨t,rfl⟩:=ry;rw [decide_eq_false (fun z=>nomatch z)];exact SeqAt.EqAt.bool_str _ _ _
 ·cases rx;cases ry;rw [cM,oh];exact SeqAt.EqAt.bool_bool _ _
theorem Dn.cases {K:PySem.W.Frag} {H:Hp}: ∀{n:Nat} {x:V} {d:Dt},Dn K H n x d→Dn K H 0 x d∨(∃m,m<n∧∃a xs ds,x = .ref a∧d = .l ds∧aF K H a xs∧Paired (Dn K H m) xs ds)∨(∃m,m<n∧∃a xs ds,x = .ref a∧d = .t ds∧bV K H a xs∧Paired (Dn K H m) xs ds)
 |0,_,_,h=> .inl h
 |n+1,_,_,h=>by
  rcases h with h|h|h
  ·
   rcases Dn.cases h with q|⟨m,hm,q⟩|⟨m,hm,q⟩
   ·exact .inl q
   ·exact .inr (.inl ⟨m,by omega,q⟩)
   ·exact .inr (.inr ⟨m,by omega,q⟩)
  ·exact .inr (.inl ⟨n,by omega,h⟩)
  ·exact .inr (.inr ⟨n,by omega,h⟩)
theorem Dn.up {K:PySem.W.Frag} {H:Hp} {n m:Nat} {x:V} {d:Dt} (h:Dn K H n x d) (hm:n≤m):Dn K H m x d:=by
  induction m with
  |zero=>
            have:n=0:=by omega
            subst this;exact h
  |
    succ m ih=>
    by_cases e:n=m+1
    · subst e;exact h
    · exact .inl (ih (by omega))
theorem mO (n:Nat): ∀{m:Nat} {x:V} {d e:Dt},Inv X pins σ H s→Dn X.K H n x d→Dn X.K H m x e→d=e:=by
 induction n using Nat.strongRecOn with
 |_ n ih=>
 intro m x d e I hx hy
 rcases hx.cases with hx|⟨m1,hm,a,xs,ds,rfl,rfl,ha,pa⟩|⟨m1,hm,a,xs,ds,rfl,rfl,ha,pa⟩
 ·
  rcases hy.cases with hy|⟨k,hk,b,ys,es,rfl,rfl,hb,pb⟩|⟨k,hk,b,ys,es,rfl,rfl,hb,pb⟩
  ·rcases hx with ⟨rfl,rfl⟩|⟨i,rfl,rfl⟩|⟨i,rfl,rfl⟩|⟨i,rfl,rfl⟩<;>rcases hy with ⟨z,rfl⟩|⟨j,z,rfl⟩|⟨j,z,rfl⟩|⟨j,z,rfl⟩<;>first|rfl|(cases z;rfl)|cases z
  ·rcases hx with ⟨z,_⟩|⟨i,z,_⟩|⟨i,z,_⟩|⟨i,z,_⟩<;>cases z
  ·rcases hx with ⟨z,_⟩|⟨i,z,_⟩|⟨i,z,_⟩|⟨i,z,_⟩<;>cases z
 ·
  rcases hy.cases with hy|⟨k,hk,b,ys,es,e1,rfl,hb,pb⟩|⟨k,hk,b,ys,es,e1,rfl,hb,pb⟩
  ·rcases hy with ⟨z,_⟩|⟨i,z,_⟩|⟨i,z,_⟩|⟨i,z,_⟩<;>cases z
  ·
   cases e1
   have:=I.fg ha hb
   subst this
   rw [cx pa pb fun x d e h1 h2=>ih m1 hm I h1 h2]
  ·
   cases e1
   exact (b_ I ha hb).elim
 ·
  rcases hy.cases with hy|⟨k,hk,b,ys,es,e1,rfl,hb,pb⟩|⟨k,hk,b,ys,es,e1,rfl,hb,pb⟩
  ·rcases hy with ⟨z,_⟩|⟨i,z,_⟩|⟨i,z,_⟩|⟨i,z,_⟩<;>cases z
  ·
   cases e1
   exact (b_ I hb ha).elim
  ·
   cases e1
   have:=I.dP ha hb
   subst this
   rw [cx pa pb fun x d e h1 h2=>ih m1 hm I h1 h2]
open Classical in
theorem cL {n:Nat} {A:Around} {xs ys:List V} {its its2:List Value} {ds es:List Dt} {m k:Nat} (r1:Vals xs its) (r2:Vals ys its2) (pa:Paired (Dn X.K H m) xs ds) (pb:Paired (Dn X.K H k) ys es)
  (ih: ∀x y u v d e,RelV x u→RelV y v→Dn X.K H m x d→Dn X.K H k y e→SeqAt.EqAt A s u v (decide (d=e))):
  ∀j (h1:j<its.toArray.size) (h2:j<its2.toArray.size),SeqAt.EqAt A s its.toArray[j] its2.toArray[j] (decide (ds[j]?=es[j]?)):=by
 intro j h1 h2
 have h1':j<its.length:=by simpa using h1
 have h2':j<its2.length:=by simpa using h2
 have l1:=r1.length
 have l2:=r2.length
 have x1:xs[j]?=some xs[j]:=by simp
 have y1:ys[j]?=some ys[j]:=by simp
 obtain ⟨d',hd',pd⟩:=Paired.get pa x1
 obtain ⟨e',he',pe⟩:=Paired.get pb y1
 obtain ⟨u',hu1,ru⟩:=r1.get x1
 obtain ⟨v',hv1,rv⟩:=r2.get y1
 have e1:its.toArray[j]=u':=by
  have:its[j]?=some its[j]:=by simp
  rw [hu1] at this
  simpa using (Option.some.inj this).symm
 have e2:its2.toArray[j]=v':=by
  have:its2[j]?=some its2[j]:=by simp
  rw [hv1] at this
  simpa using (Option.some.inj this).symm
 have e3:decide (ds[j]?=es[j]?)=decide (d'=e'):=by
  rw [hd',he',Bool.eq_iff_iff,decide_eq_true_eq,decide_eq_true_eq]
  exact ⟨fun q=>Option.some.inj q,fun q=>by rw [q]⟩
 rw [e1,e2,e3]
 exact ih _ _ _ _ _ _ ru rv pd pe
open Classical in
theorem jv (n:Nat): ∀{A:Around} {x y:V} {u v:Value} {d e:Dt},Inv X pins σ H s→A.units+n<cLine→RelV x u→RelV y v→Dn X.K H n x d→Dn X.K H n y e→SeqAt.EqAt A s u v (decide (d=e))∧∀a b,x = .ref a→y = .ref b→SeqAt.RcAt A s (.ref a) (.ref b) (decide (d=e)):=by
 induction n using Nat.strongRecOn with
 |_ n ih=>
 intro A x y u v d e I hu rx ry hx hy
 have lift: ∀{a b:Addr},x = .ref a→y = .ref b→SeqAt.RcAt A s (.ref a) (.ref b) (decide (d=e))→SeqAt.EqAt A s (.ref a) (.ref b) (decide (d=e)):=fun {a b} ea eb q=>by
  by_cases hab:a=b
  ·
   subst hab
   subst ea
   subst eb
   rw [decide_eq_true (mO n I hx hy)]
   exact SeqAt.EqAt.same _
  ·exact SeqAt.EqAt.of_refs hab q
 have hu':A.units<cLine:=by omega
 rcases hx.cases with hx'|⟨m,hm,a,xs,ds,rfl,rfl,ha,pa⟩|⟨m,hm,a,xs,ds,rfl,rfl,ha,pa⟩
 ·
  rcases hy.cases with hy'|⟨k,hk,b,ys,es,rfl,rfl,hb,pb⟩|⟨k,hk,b,ys,es,rfl,rfl,hb,pb⟩
  ·
   refine ⟨kP rx ry hx' hy',fun a b e1 e2=>?_⟩
   subst e1
   rcases hx' with ⟨z,_⟩|⟨i,z,_⟩|⟨i,z,_⟩|⟨i,z,_⟩<;>cases z
  ·
   cases ry
   obtain ⟨its,_,p,_⟩:=I.list hb
   rcases hx' with ⟨rfl,rfl⟩|⟨i,rfl,rfl⟩|⟨i,rfl,rfl⟩|⟨i,rfl,rfl⟩
   ·cases rx;rw [decide_eq_false (fun z=>nomatch z)];exact ⟨SeqAt.EqAt.none_list p.isList hu',fun a b z=>nomatch z⟩
   ·obtain ⟨t,rfl⟩:=rx;rw [decide_eq_false (fun z=>nomatch z)];exact ⟨SeqAt.EqAt.int_list _ _ p.isList hu',fun a b z=>nomatch z⟩
   ·obtain ⟨t,rfl⟩:=rx;rw [decide_eq_false (fun z=>nomatch z)];exact ⟨SeqAt.EqAt.str_list _ _ p.isList hu',fun a b z=>nomatch z⟩
   ·cases rx;rw [decide_eq_false (fun z=>nomatch z)];exact ⟨SeqAt.EqAt.bool_list _ p.isList hu',fun a b z=>nomatch z⟩
  ·
   cases ry
   obtain ⟨its,_,p,_⟩:=I.tuple hb
   rcases hx' with ⟨rfl,rfl⟩|⟨i,rfl,rfl⟩|⟨i,rfl,rfl⟩|⟨i,rfl,rfl⟩
   ·cases rx;rw [decide_eq_false (fun z=>nomatch z)];exact ⟨SeqAt.EqAt.none_tuple p hu',fun a b z=>nomatch z⟩
   ·obtain ⟨t,rfl⟩:=rx;rw [decide_eq_false (fun z=>nomatch z)];exact ⟨SeqAt.EqAt.int_tuple _ _ p hu',fun a b z=>nomatch z⟩
   ·obtain ⟨t,rfl⟩:=rx;rw [decide_eq_false (fun z=>nomatch z)];exact ⟨SeqAt.EqAt.str_tuple _ _ p hu',fun a b z=>nomatch z⟩
   ·cases rx;rw [decide_eq_false (fun z=>nomatch z)];exact ⟨SeqAt.EqAt.bool_tuple _ p hu',fun a b z=>nomatch z⟩
 ·
  cases rx
  obtain ⟨its,r1,p,hz⟩:=I.list ha
  rcases hy.cases with hy'|⟨k,hk,b,ys,es,rfl,rfl,hb,pb⟩|⟨k,hk,b,ys,es,rfl,rfl,hb,pb⟩
  ·
   rcases hy' with ⟨rfl,rfl⟩|⟨i,rfl,rfl⟩|⟨i,rfl,rfl⟩|⟨i,rfl,rfl⟩
   ·cases ry;rw [decide_eq_false (fun z=>nomatch z)];exact ⟨SeqAt.EqAt.list_none p.isList hu',fun a b _ z=>nomatch z⟩
   ·obtain ⟨t,rfl⟩:=ry;rw [decide_eq_false (fun z=>nomatch z)];exact ⟨SeqAt.EqAt.list_int _ _ p.isList hu',fun a b _ z=>nomatch z⟩
   ·obtain ⟨t,rfl⟩:=ry;rw [decide_eq_false (fun z=>nomatch z)];exact ⟨SeqAt.EqAt.list_str _ _ p.isList hu',fun a b _ z=>nomatch z⟩
   ·cases ry;rw [decide_eq_false (fun z=>nomatch z)];exact ⟨SeqAt.EqAt.list_bool _ p.isList hu',fun a b _ z=>nomatch z⟩
  ·
   cases ry
   obtain ⟨its2,r2,p2,hz2⟩:=I.list hb
   have l1:=r1.length
   have l2:=r2.length
   have l3:=Paired.length pa
   have l4:=Paired.length pb
   have eqd:decide (Dt.l ds=Dt.l es)=decide (ds=es):=by
    rw [Bool.eq_iff_iff,decide_eq_true_eq,decide_eq_true_eq]
    exact ⟨fun q=>Dt.l.inj q,fun q=>by rw [q]⟩
   have rc:SeqAt.RcAt A s (.ref a) (.ref b) (decide (Dt.l ds=Dt.l es)):=by
    rw [eqd]
    by_cases hl:its.length=its2.length
    ·have key:=SeqAt.RcAt.lists (e:=fun j=>decide (ds[j]?=es[j]?)) p.isList p2.isList (by simpa using hl) hu' (cL (n:=n) r1 r2 pa pb fun x y u v d e rx ry h1 h2=>
      (ih (max m k) (by omega) (A:=A.in1) I (by show A.units+1+max m k<cLine;omega) rx ry (h1.up (Nat.le_max_left _ _)) (h2.up (Nat.le_max_right _ _))).1)
     rw [cj (by rw [List.size_toArray];omega) (by omega)] at key
     exact key
    ·
     have hne:ds≠es:=fun q=>hl (by rw [q] at l3;omega)
     rw [decide_eq_false hne]
     exact SeqAt.RcAt.lists_lengths p.isList p2.isList (gr hl) hu'
   exact ⟨lift rfl rfl rc,fun a' b' e1 e2=>by cases e1;cases e2;exact rc⟩
  ·
   cases ry
   obtain ⟨its2,r2,p2,_⟩:=I.tuple hb
   rw [decide_eq_false (fun z=>nomatch z)]
   exact ⟨SeqAt.EqAt.list_tuple p.isList p2 hu',fun a' b' e1 e2=>by cases e1;cases e2;exact SeqAt.RcAt.list_tuple p.isList p2 hu'⟩
 ·
  cases rx
  obtain ⟨its,r1,p,hz⟩:=I.tuple ha
  rcases hy.cases with hy'|⟨k,hk,b,ys,es,rfl,rfl,hb,pb⟩|⟨k,hk,b,ys,es,rfl,rfl,hb,pb⟩
  ·
   rcases hy' with ⟨rfl,rfl⟩|⟨i,rfl,rfl⟩|⟨i,rfl,rfl⟩|⟨i,rfl,rfl⟩
   ·cases ry;rw [decide_eq_false (fun z=>nomatch z)];exact ⟨SeqAt.EqAt.tuple_none p hu',fun a b _ z=>nomatch z⟩
   ·obtain ⟨t,rfl⟩:=ry;rw [decide_eq_false (fun z=>nomatch z)];exact ⟨SeqAt.EqAt.tuple_int _ _ p hu',fun a b _ z=>nomatch z⟩
   ·obtain ⟨t,rfl⟩:=ry;rw [decide_eq_false (fun z=>nomatch z)];exact ⟨SeqAt.EqAt.tuple_str _ _ p hu',fun a b _ z=>nomatch z⟩
   ·cases ry;rw [decide_eq_false (fun z=>nomatch z)];exact ⟨SeqAt.EqAt.tuple_bool _ p hu',fun a b _ z=>nomatch z⟩
  ·
   cases ry
   obtain ⟨its2,r2,p2,_⟩:=I.list hb
   rw [decide_eq_false (fun z=>nomatch z)]
   exact ⟨SeqAt.EqAt.tuple_list p p2.isList hu',fun a' b' e1 e2=>by cases e1;cases e2;exact SeqAt.RcAt.tuple_list p p2.isList hu'⟩
  ·
   cases ry
   obtain ⟨its2,r2,p2,hz2⟩:=I.tuple hb
   have l1:=r1.length
   have l2:=r2.length
   have l3:=Paired.length pa
   have l4:=Paired.length pb
   have eqd:decide (Dt.t ds=Dt.t es)=decide (ds=es):=by
    rw [Bool.eq_iff_iff,decide_eq_true_eq,decide_eq_true_eq]
    exact ⟨fun q=>Dt.t.inj q,fun q=>by rw [q]⟩
   have rc:SeqAt.RcAt A s (.ref a) (.ref b) (decide (Dt.t ds=Dt.t es)):=by
    rw [eqd]
    have key:=SeqAt.RcAt.tuples (e:=fun j=>decide (ds[j]?=es[j]?)) p p2 hu' (cL (n:=n) r1 r2 pa pb fun x y u v d e rx ry h1 h2=>
      (ih (max m k) (by omega) (A:=A.in1) I (by show A.units+1+max m k<cLine;omega) rx ry (h1.up (Nat.le_max_left _ _)) (h2.up (Nat.le_max_right _ _))).1)
    by_cases hl:its.length=its2.length
    ·
     rw [show min its.toArray.size its2.toArray.size=ds.length by rw [List.size_toArray,List.size_toArray];omega,cj rfl (by omega),show (its.toArray.size == its2.toArray.size)=true by rw [List.size_toArray,List.size_toArray,beq_iff_eq];exact hl,Bool.and_true] at key
     exact key
    ·
     have hne:ds≠es:=fun q=>hl (by rw [q] at l3;omega)
     rw [decide_eq_false hne]
     rw [show (its.toArray.size == its2.toArray.size)=false by rw [List.size_toArray,List.size_toArray,beq_eq_false_iff_ne];exact hl,Bool.and_false] at key
     exact key
   exact ⟨lift rfl rfl rc,fun a' b' e1 e2=>by cases e1;cases e2;exact rc⟩
end
def cZ (K:PySem.W.Frag) (neg:Bool):R2:=fun x y H Q=>match x,y with
 | .ref a,.ref b=> ∃n d e,n≤60∧Dn K H n (.ref a) d∧Dn K H n (.ref b) e∧((d=e∧Q (.bl (!neg)) H)∨(d≠e∧Q (.bl neg) H))
 |x,y=>scal x y=true∧Q (.bl (if neg then !decide (x=y) else decide (x=y))) H
section
variable {X:Cx}
open Classical in
theorem l9 (hu:X.A.units+64<cLine):cf X (compareOp .Eq) (cZ X.K false):=by
 intro pins s σ H x y v u Q I rx ry h
 unfold cZ at h
 split at h
 ·
  obtain ⟨n,d,e,hn,hd,he,q⟩:=h
  obtain ⟨_,rc⟩:=jv n (A:=X.A) I (by omega) rx ry hd he
  cases rx
  cases ry
  have:=rc _ _ rfl rfl
  refine (this X.prog X.w _ _ ?_:wpAny (model X.prog X.w) X.A (richCompare .Eq _ _) (EP X pins σ Q) X.xe s)
  rcases q with ⟨c,q⟩|⟨c,q⟩
  ·rw [decide_eq_true c];exact ⟨.bl true,H,I,rfl,q⟩
  ·rw [decide_eq_false c];exact ⟨.bl false,H,I,rfl,q⟩
 ·exact nT pins s σ H _ _ v u Q I rx ry ⟨h.1,by simpa using h.2⟩
open Classical in
theorem l8 (hu:X.A.units+64<cLine):cf X (compareOp .NotEq) (cZ X.K true):=by
 intro pins s σ H x y v u Q I rx ry h
 unfold cZ at h
 split at h
 ·
  rename_i a b
  obtain ⟨n,d,e,hn,hd,he,q⟩:=h
  cases rx
  cases ry
  have hu':X.A.units<cLine:=by omega
  have fin:SeqAt.RcNeAt X.A s (.ref a) (.ref b) (!decide (d=e))→wpAny (model X.prog X.w) X.A (compareOp .NotEq (.ref a) (.ref b)) (EP X pins σ Q) X.xe s:=fun rc=>by
   refine (rc X.prog X.w _ _ ?_:wpAny (model X.prog X.w) X.A (richCompare .NotEq _ _) (EP X pins σ Q) X.xe s)
   rcases q with ⟨c,q⟩|⟨c,q⟩
   ·rw [decide_eq_true c];exact ⟨.bl false,H,I,rfl,q⟩
   ·rw [decide_eq_false c];exact ⟨.bl true,H,I,rfl,q⟩
  apply fin
  clear fin q
  rcases hd.cases with hx'|⟨m,hm,a',xs,ds,e1,rfl,ha,pa⟩|⟨m,hm,a',xs,ds,e1,rfl,ha,pa⟩
  ·rcases hx' with ⟨z,_⟩|⟨i,z,_⟩|⟨i,z,_⟩|⟨i,z,_⟩<;>cases z
  ·
   cases e1
   obtain ⟨its,r1,p,hz⟩:=I.list ha
   rcases he.cases with hy'|⟨k,hk,b',ys,es,e2,rfl,hb,pb⟩|⟨k,hk,b',ys,es,e2,rfl,hb,pb⟩
   ·rcases hy' with ⟨z,_⟩|⟨i,z,_⟩|⟨i,z,_⟩|⟨i,z,_⟩<;>cases z
   ·
    cases e2
    obtain ⟨its2,r2,p2,hz2⟩:=I.list hb
    have l1:=r1.length
    have l2:=r2.length
    have l3:=Paired.length pa
    have l4:=Paired.length pb
    have eqd:decide (Dt.l ds=Dt.l es)=decide (ds=es):=by
     rw [Bool.eq_iff_iff,decide_eq_true_eq,decide_eq_true_eq]
     exact ⟨fun q=>Dt.l.inj q,fun q=>by rw [q]⟩
    rw [eqd]
    by_cases hl:its.length=its2.length
    ·have key:=SeqAt.RcNeAt.lists (e:=fun j=>decide (ds[j]?=es[j]?)) p.isList p2.isList (by simpa using hl) hu' (cL (n:=n) r1 r2 pa pb fun x y u v d e rx ry h1 h2=>
      (jv (max m k) (A:=X.A.in1) I (by show X.A.units+1+max m k<cLine;omega) rx ry (h1.up (Nat.le_max_left _ _)) (h2.up (Nat.le_max_right _ _))).1)
     rw [cj (by rw [List.size_toArray];omega) (by omega)] at key
     exact key
    ·
     have hne:ds≠es:=fun q=>hl (by rw [q] at l3;omega)
     rw [decide_eq_false hne]
     exact SeqAt.RcNeAt.lists_lengths p.isList p2.isList (gr hl) hu'
   ·
    cases e2
    obtain ⟨its2,r2,p2,_⟩:=I.tuple hb
    rw [decide_eq_false (fun z=>nomatch z)]
    exact SeqAt.RcNeAt.list_tuple p.isList p2 hu'
  ·
   cases e1
   obtain ⟨its,r1,p,hz⟩:=I.tuple ha
   rcases he.cases with hy'|⟨k,hk,b',ys,es,e2,rfl,hb,pb⟩|⟨k,hk,b',ys,es,e2,rfl,hb,pb⟩
   ·rcases hy' with ⟨z,_⟩|⟨i,z,_⟩|⟨i,z,_⟩|⟨i,z,_⟩<;>cases z
   ·
    cases e2
    obtain ⟨its2,r2,p2,_⟩:=I.list hb
    rw [decide_eq_false (fun z=>nomatch z)]
    exact SeqAt.RcNeAt.tuple_list p p2.isList hu'
   ·
    cases e2
    obtain ⟨its2,r2,p2,hz2⟩:=I.tuple hb
    have l1:=r1.length
    have l2:=r2.length
    have l3:=Paired.length pa
    have l4:=Paired.length pb
    have eqd:decide (Dt.t ds=Dt.t es)=decide (ds=es):=by
     rw [Bool.eq_iff_iff,decide_eq_true_eq,decide_eq_true_eq]
     exact ⟨fun q=>Dt.t.inj q,fun q=>by rw [q]⟩
    rw [eqd]
    have key:=SeqAt.RcNeAt.tuples (e:=fun j=>decide (ds[j]?=es[j]?)) p p2 hu' (cL (n:=n) r1 r2 pa pb fun x y u v d e rx ry h1 h2=>
      (jv (max m k) (A:=X.A.in1) I (by show X.A.units+1+max m k<cLine;omega) rx ry (h1.up (Nat.le_max_left _ _)) (h2.up (Nat.le_max_right _ _))).1)
    by_cases hl:its.length=its2.length
    ·
     rw [show min its.toArray.size its2.toArray.size=ds.length by rw [List.size_toArray,List.size_toArray];omega,cj rfl (by omega),show (its.toArray.size == its2.toArray.size)=true by rw [List.size_toArray,List.size_toArray,beq_iff_eq];exact hl,Bool.and_true] at key
     exact key
    ·
     have hne:ds≠es:=fun q=>hl (by rw [q] at l3;omega)
     rw [decide_eq_false hne]
     rw [show (its.toArray.size == its2.toArray.size)=false by rw [List.size_toArray,List.size_toArray,beq_eq_false_iff_ne];exact hl,Bool.and_false] at key
     exact key
 ·exact nP pins s σ H _ _ v u Q I rx ry ⟨h.1,by simpa using h.2⟩
end
section
variable {K:PySem.W.Frag} {H:Hp} {Q:VK}
theorem c8 {X:Cx} (K:PySem.W.Frag) (h:X.K=K) (hu:X.A.units+64<cLine):cf X (compareOp .Eq) (cZ K false):=h▸l9 hu
theorem eo {X:Cx} (K:PySem.W.Frag) (h:X.K=K) (hu:X.A.units+64<cLine):cf X (compareOp .NotEq) (cZ K true):=h▸l8 hu
theorem i8 {i j:Int}:cZ K false (.int i) (.int j) H Q=Q (.bl (decide (i=j))) H:=by
 show (scal (.int i) (.int j)=true∧Q (.bl (if false=true then _ else decide (V.int i=V.int j))) H)=_
 rw [if_neg Bool.false_ne_true]
 exact ef
theorem iZ {i j:Int}:cZ K true (.int i) (.int j) H Q=Q (.bl (!decide (i=j))) H:=by
 show (scal (.int i) (.int j)=true∧Q (.bl (if true=true then !decide (V.int i=V.int j) else _)) H)=_
 rw [if_pos rfl]
 exact ed
theorem i7 {i j:Str}:cZ K false (.str i) (.str j) H Q=Q (.bl (decide (i=j))) H:=by
 show (scal (.str i) (.str j)=true∧Q (.bl (if false=true then _ else decide (V.str i=V.str j))) H)=_
 rw [if_neg Bool.false_ne_true]
 exact ee
theorem iY {i j:Str}:cZ K true (.str i) (.str j) H Q=Q (.bl (!decide (i=j))) H:=by
 show (scal (.str i) (.str j)=true∧Q (.bl (if true=true then !decide (V.str i=V.str j) else _)) H)=_
 rw [if_pos rfl]
 exact d_
theorem kd {i j:Bool}:cZ K false (.bl i) (.bl j) H Q=Q (.bl (decide (i=j))) H:=by
 show (scal (.bl i) (.bl j)=true∧Q (.bl (if false=true then _ else decide (V.bl i=V.bl j))) H)=_
 rw [if_neg Bool.false_ne_true]
 exact fS
theorem jZ {i j:Bool}:cZ K true (.bl i) (.bl j) H Q=Q (.bl (!decide (i=j))) H:=by
 show (scal (.bl i) (.bl j)=true∧Q (.bl (if true=true then !decide (V.bl i=V.bl j) else _)) H)=_
 rw [if_pos rfl]
 exact fK
theorem f9 {n:Nat} {i:Int}:Dn K H n (.int i) (.int i):=Dn.up (n:=0) (.inr (.inl ⟨i,rfl,rfl⟩)) (Nat.zero_le _)
theorem f7 {n:Nat} {a:Addr} {xs:List V} {ds:List Dt} (h:H a=some (.lst xs)) (p:Paired (Dn K H n) xs ds):Dn K H (n+1) (.ref a) (.l ds):= .inr (.inl ⟨a,xs,ds,rfl,rfl,aF.of h,p⟩)
theorem mN {n:Nat} {a:Addr} {xs:List V} {ds:List Dt} (h:H a=some (.tup xs)) (p:Paired (Dn K H n) xs ds):Dn K H (n+1) (.ref a) (.t ds):= .inr (.inr ⟨a,xs,ds,rfl,rfl,bV.of h,p⟩)
end
def ov (K:PySem.W.Frag) (n:Nat) (t:jJ) (a:Addr) (σ:St) (H:Hp) (Q:St→Hp→Prop):Option HO→Prop
 |some (.tup xs)=>xs.length=n∧t xs σ H Q
 |some (.lst xs)=>xs.length=n∧t xs σ H Q
 |_=> ∃xs,bV K H a xs∧xs.length=n∧t xs σ H Q
def nZ (K:PySem.W.Frag) (n:Nat) (t:jJ):TG:=fun v σ H Q=>match v with
 | .ref a=>ov K n t a σ H Q (H a)
 |_=>False
theorem iB {K:PySem.W.Frag} {n:Nat} {t:jJ} {a:Addr} {σ:St} {H:Hp} {Q:St→Hp→Prop}:nZ K n t (.ref a) σ H Q=ov K n t a σ H Q (H a):=rfl
theorem kM {K:PySem.W.Frag} {n:Nat} {t:jJ} {a:Addr} {σ:St} {H:Hp} {Q:St→Hp→Prop} {xs:List V}:ov K n t a σ H Q (some (.tup xs))=(xs.length=n∧t xs σ H Q):=rfl
theorem kN {K:PySem.W.Frag} {n:Nat} {t:jJ} {a:Addr} {σ:St} {H:Hp} {Q:St→Hp→Prop} {xs:List V}:ov K n t a σ H Q (some (.lst xs))=(xs.length=n∧t xs σ H Q):=rfl
section
variable {X:Cx}
end
def lT:V→List V→Hp→VK→Prop:=fun x vs H Q=>match x,vs with
 | .str z,[.str y]=>Q (.int (match Builtin.Str.occurrences z y 0 z.length 1 with|i::_=>(i:Int) | []=>-1)) H
 |_,_=>False
def j_:V→List V→Hp→VK→Prop:=fun x vs H Q=>match x,vs with
 | .str z,[.str y]=> ∃i r,Builtin.Str.occurrences z y 0 z.length 1=i::r∧Q (.int (i:Nat)) H
 |_,_=>False
noncomputable def ot (z:Str) (i:Int):Str:=if i≤z.length then z else Builtin.Str.padded z 0 (i.toNat - z.length) 32
def lN:V→List V→Hp→VK→Prop:=fun x vs H Q=>match x,vs with
 | .str z,[.int i]=>(0≤i∧i≤1000)∧(ot z i).length≤sizeLine∧Q (.str (ot z i)) H
 |_,_=>False
section
variable {X:Cx}
end
def gG (ss:List Str) (y:Str) (j:Nat):Prop:=ss[j]?=some y∧∀m,m<j→ss[m]?≠some y
def j9 (K:PySem.W.Frag):V→List V→Hp→VK→Prop:=fun x vs H Q=>match x,vs with
 | .ref p,[.str y]=> ∃ss:List Str,bV K H p (ss.map V.str)∧∃j,gG ss y j∧Q (.int (j:Nat)) H
 |_,_=>False
def ka (K:PySem.W.Frag):V→List V→Hp→VK→Prop:=fun x vs H Q=>match x,vs with
 | .ref p,[.str y]=> ∃ss:List Str,aF K H p (ss.map V.str)∧∃j,gG ss y j∧Q (.int (j:Nat)) H
 |_,_=>False
section
variable {X:Cx}
end
def rJoin (K:PySem.W.Frag):V→List V→Hp→VK→Prop:=fun x vs H Q=>match x,vs with
 | .str z,[.ref p]=> ∃ss:List Str,aF K H p (ss.map V.str)∧(ss.map (·.length)).sum+ss.length*z.length≤1000000∧Q (.str (Txt.join z ss)) H
 |_,_=>False
noncomputable def mw:Option Bool→Option Bool→Option Bool
 |some true,_=>some true
 |some false,o=>o
 |none,_=>none
theorem mr {o:Option Bool}:mw (some true) o=some true:=rfl
theorem mv {o:Option Bool}:mw (some false) o=o:=rfl
theorem jl {K:PySem.W.Frag} {t c d:Value}:PySem.W.kitAny K t [c,d]=mw (PySem.W.kitOne K t c) (PySem.W.kitOne K t d):=by
 unfold PySem.W.kitAny PySem.W.kitAny PySem.W.kitAny
 cases PySem.W.kitOne K t c with
 |none=>rfl
 |some b=>
  cases b
  ·
   cases PySem.W.kitOne K t d with
   |none=>rfl
   |some b=>cases b<;>rfl
  ·rfl
def jq (N:Addr→Addr→Prop):Option HO→Prop
 |some (.tup [.ref C,.ref D])=>N C D
 |_=>False
theorem kH {N:Addr→Addr→Prop} {C D:Addr}:jq N (some (.tup [.ref C,.ref D]))=N C D:=rfl
def lO (K:PySem.W.Frag):List V→Hp→VK→Prop:=fun xs H Q=>match xs with
 | [.ref p,.ref t]=> ∃D dx,H p=some (.ext (eT p (.ref D) dx))∧fu K D∧eU H dx∧jq (fun C1 C2=>fX (PySem.W.kitAny K (.ref D) [.ref C1,.ref C2]) fun b=>Q (.bl b) H) (H t)
 |_=>False
theorem fO {K:PySem.W.Frag} {p t:Addr} {H:Hp} {Q:VK}:lO K [.ref p,.ref t] H Q= ∃D dx,H p=some (.ext (eT p (.ref D) dx))∧fu K D∧eU H dx∧jq (fun C1 C2=>fX (PySem.W.kitAny K (.ref D) [.ref C1,.ref C2]) fun b=>Q (.bl b) H) (H t):=rfl
section
variable {X:Cx} {e:Expr} {f:Str} {ta:TE} {pos:Pos}
def fQ (K:PySem.W.Frag) (f:Str) (x:V) (H:Hp) (Q:VK):Prop:= ∃a,x = .ref a∧∃C dx,H a=some (.ext (eT a (.ref C) dx))∧fu K C∧oi K C f∧∃d,dx=some d∧∃fs,H d=some (.xd fs)∧∃v,fs.lookup f=some v∧Q v H
def lD (K:PySem.W.Frag) (f:Str) (ta:TE):TE:=fun σ H Q=>ta σ H fun x H1=>fQ K f x H1 Q
theorem fP {K:PySem.W.Frag} {a:Addr} {f:Str} {H:Hp} {Q:VK}:fQ K f (.ref a) H Q= ∃C dx,H a=some (.ext (eT a (.ref C) dx))∧fu K C∧oi K C f∧∃d,dx=some d∧∃fs,H d=some (.xd fs)∧∃v,fs.lookup f=some v∧Q v H:=by
 apply propext;unfold fQ;constructor
 ·rintro ⟨b,e,h⟩;cases e;exact h
 ·exact fun h=>⟨a,rfl,h⟩
theorem n8 {d:Addr} {N:Addr→Prop}:(∃x,some d=some x∧N x)=N d:=by
 apply propext;constructor
 ·rintro ⟨x,e,h⟩;cases e;exact h
 ·exact fun h=>⟨d,rfl,h⟩
end
section
variable {K:PySem.W.Frag} {H:Hp} {Q:VK} {z y:Str} {p:Addr} {i:Int}
theorem fR:lT (.str z) [.str y] H Q=Q (.int (match Builtin.Str.occurrences z y 0 z.length 1 with|i::_=>(i:Int) | []=>-1)) H:=rfl
theorem e8:j_ (.str z) [.str y] H Q= ∃i r,Builtin.Str.occurrences z y 0 z.length 1=i::r∧Q (.int (i:Nat)) H:=rfl
theorem fL:lN (.str z) [.int i] H Q=((0≤i∧i≤1000)∧(ot z i).length≤sizeLine∧Q (.str (ot z i)) H):=rfl
theorem e7:j9 K (.ref p) [.str y] H Q= ∃ss:List Str,bV K H p (ss.map V.str)∧∃j,gG ss y j∧Q (.int (j:Nat)) H:=rfl
theorem e9:ka K (.ref p) [.str y] H Q= ∃ss:List Str,aF K H p (ss.map V.str)∧∃j,gG ss y j∧Q (.int (j:Nat)) H:=rfl
theorem hX:rJoin K (.str z) [.ref p] H Q= ∃ss:List Str,aF K H p (ss.map V.str)∧(ss.map (·.length)).sum+ss.length*z.length≤1000000∧Q (.str (Txt.join z ss)) H:=rfl
end
section
variable {X:Cx} (K:PySem.W.Frag)
end
section
variable {K:PySem.W.Frag} {g:TG} {tb:TS} {D:Ends} {σ:St} {H:Hp}
end
section
variable {K:PySem.W.Frag} {g:TG} {tb:TS} {D:Ends} {σ:St} {H:Hp} {ta:TA}
end
section
variable {X:Cx} {K:PySem.W.Frag}
end
section
variable {X:Cx} {CX:cB} {C:Addr} {x m:Str} {p pos apos:Pos} {o:Expr} {ta:TE} {k n:Nat} {sp:Sp} {E:XK}
end
section
variable {prog:Program} {w:World} {A:Around} {s:Shared} {K:PySem.W.Frag} {x C R dx:Addr} {cd:ClassData} {name:Str} {v:Value}
end
section
variable {X:Cx} {pins:List (Addr×Obj)} {σ:St} {H:Hp} {s:Shared} {h':Heap} {dx:Addr}
end
section
variable {X:Cx} {E:XK}
end
section
variable {X:Cx} {a b:Expr} {ta tb:TE} {op:Operator} {r:R2} {pos:Pos}
end
section
variable {X:Cx}
end
section
variable {X:Cx} {CX:cB} {m:Str} {pos apos:Pos} {o:Expr} {ta:TE} {k n:Nat} {sp:Sp} {E:XK} {σ0:St}
end
section
variable {X:Cx} {CX:cB} {C:Addr} {m x:Str} {pos apos:Pos} {o:Expr} {ta:TE} {k n:Nat} {ps:List Str} {sp:Sp} {E:XK} {σ0:St}
end
section
variable {prog:Program} {w:World} {A:Around} {R:Result→Shared→Prop} {I:Addr} {fp wr:List Addr} {n:Nat} {P:Nat→Value→Prop} {St:Nat→Heap→Prop}
end
section
variable {prog:Program} {w:World} {A:Around} {E:Value→Shared→Prop} {s:Shared}
end
section
variable {X:Cx}
end
section
variable {prog:Program} {w:World} {A:Around} {E:Value→Shared→Prop} {s:Shared} {K:PySem.W.Frag}
end
section
variable {X:Cx}
end
def jK (t:Addr) (H:Hp):Prop:=(∀b,b≠t→H b=none∨∃o xs,H b=some (.frz o (.lst xs)))∧H t=some (.tbl #[])
theorem iv {P:Program} {w:World} {K:PySem.W.Frag} {mg mb:Str→Option Value} {CX:cB} {k:Nat} {fa a c t bm:Addr} {ob:Obj} {fd:FuncData} {x:Str} {sp:Sp} {s₁:Shared} {vs:List Value} {ns:List Int}
  (KX:K.In s₁.heap) (hm:s₁.heap.get? bm=some ob) (hmc:ob.cls = .type "module") (tx:s₁.heap.TableAt c t #[]) (kt:K.lookup t=none) (hns:s₁.heap.Ns mainGlobals mg) (hb:s₁.heap.Ns builtinsNs mb) (hbb: ∀x:Str,x≠ "__name__" →mb x=bootBuiltins x) (hlim:s₁.heap.NoLimit) (hg:s₁.gens = #[])
  (ha:s₁.heap.get? a=some {cls:= .type "list",data:= .seq vs.toArray}) (hi:IntsAre vs ns) (hl:ns.length≤sizeLine) (hr:bb k callerA)
  (F: ∀base:Heap,K.In base→base.Ns mainGlobals mg→base.get? bm=some ob→eR P w K mg base CX k fa fd [x] sp) (hbind: ∀(s:Shared) (u:Value),BindsTo s fd ⟨[u],[]⟩ [(x,u)])
  (hsp: ∀H:Hp,jK t H→aF K H a (ns.map V.int)→sp [.ref a] H (fun v _=>v = .bl true) fun _ _ _=>False)
  (hCX: ∀H e s',CX [] H s₁ (fun _ _ _=>False) e s'→False):
  codeAny (model P w) callerA (.call (.ref fa) ⟨[.ref a],[]⟩) (fun r s'=>r = .ok (.ret (.bool true))∧OldK s₁.heap s'.heap∧s'.os=s₁.os∧AllBare s'.gens) s₁:=by
 have rv:=dO hi
 have lenV:=hi.length
 have tg:=tx.2
 have ta:t≠a:=fun e=>by
  rw [e,ha] at tg
  have q:=congrArg Obj.cls (Option.some.inj tg)
  cases q
 have core: ∀H:Hp,jK t H→aF K H a (ns.map V.int)→c6 P w H s₁.heap→(∀b,H b≠none→b=a∨b=t)→(H a≠none→K.lookup a=none)→
   codeAny (model P w) callerA (.call (.ref fa) ⟨[.ref a],[]⟩) (fun r s'=>r = .ok (.ret (.bool true))∧OldK s₁.heap s'.heap∧s'.os=s₁.os∧AllBare s'.gens) s₁:=by
  intro H hO hS hok hA hK
  have nd: ∀{b:Addr} {o:Obj} {es:Array DictEntry} {ep:Nat},s₁.heap.get? b=some o→o.data = .dict es ep→H b=none:=fun {b o es ep} e d=>by
   cases q:H b with
   |none=>rfl
   |some u=>
    rcases hA b (by rw [q];simp) with z|z
    ·
     subst z
     rw [ha] at e;cases e
     exact absurd (show Data.seq vs.toArray _=Data.dict es ep from d) (fun z=>by cases z)
    ·
     subst z
     rw [tg] at e;cases e
     exact absurd (show Data.fields #[]=Data.dict es ep from d) (fun z=>by cases z)
  have nsK: ∀{b:Addr} {m:Str→Option Value},s₁.heap.Ns b m→(eH s₁.heap H).Ns b m:=fun {b m} ⟨o,es,ep,e,d,r⟩=>⟨o,es,ep,dz e (nd e d),d,r⟩
  have hKb:K.In (eH s₁.heap H):=fun b o e=>dz (KX b o e) (by
   cases q:H b with
   |none=>rfl
   |some u=>
    rcases hA b (by rw [q];simp) with z|z
    ·subst z;rw [hK (by rw [q];simp)] at e;cases e
    ·subst z;rw [kt] at e;cases e)
  have hmb:(eH s₁.heap H).get? bm=some ob:=dz hm (by
   cases q:H bm with
   |none=>rfl
   |some u=>
    rcases hA bm (by rw [q];simp) with z|z
    ·rw [z,ha] at hm;cases hm;exact absurd (Value.type.inj hmc) (by decide)
    ·rw [z,tg] at hm;cases hm;cases hmc)
  have hM:Mod K mg (eH s₁.heap H):=⟨hKb,nsK hns,⟨mb,nsK hb,hbb⟩,let ⟨mc,h1,h2⟩:=hlim;⟨mc,nsK h1,h2⟩⟩
  have e0:jM P w K mg (eH s₁.heap H) callerA [] s₁ H:=⟨rfl,hM,fun b o e=>kv e,Nat.le_of_eq (iA _ _),trivial,fun b hb=>absurd (show b∈([]:List Addr) from hb) (by simp),hok,.of_eq hg⟩
  refine codeAny_mono ((F _ hKb (nsK hns) hmb).run callerA [] s₁ H ⟨[.ref a],[]⟩ [.ref a] [.ref a] _ _ hr e0 (hbind s₁ (.ref a)) (.cons rfl .nil) (hsp H hO hS)) fun r s' h=>?_
  cases r with
  |error e=>exact (hCX H e s' h).elim
  |ok fl=>
   cases fl with
   |next=>exact False.elim h
   |brk=>exact False.elim h
   |cont=>exact False.elim h
   |ret u=>
    obtain ⟨v,H',os,bare,un,hok',r',q⟩:=h
    have q':v = .bl true:=q
    subst q'
    obtain rfl:u=Value.bool true:=r'
    have old: ∀b o,s₁.heap.get? b=some o→asItWas s₁.heap s'.heap b o:=fun b o e=>by
     by_cases bt:b=t
     ·
      subst bt
      obtain ⟨more,m1⟩:=un.tbls b _ hO.2
      have m2:s'.heap.get? b=some {cls:= .none,data:= .fields (#[]++more)}:=hok' b _ m1
      rw [tg] at e;cases e
      exact .inr (.inl ⟨tx.isCodeTable,rfl,#[],more,rfl,m2⟩)
     ·
      refine .inl ?_
      rcases hO.1 b bt with z|⟨ob,xs,z⟩
      ·exact un.keep b o e z (by intro z;exact absurd (show b∈([]:List Addr) from z) (by simp)) (by simp)
      ·
       obtain ⟨e1,_⟩:=hok b _ z
       obtain ⟨e2,_⟩:=hok' b _ (un.frzs b ob _ z)
       rw [e] at e1;cases e1
       exact e2
    refine ⟨rfl,⟨old,fun b o e=>?_⟩,os,bare⟩
    rcases old b o e with z|⟨_,_,_,_,_,z⟩|⟨_,_,⟨o',_,_,z,_⟩,_⟩
    ·exact ⟨_,z⟩
    ·exact ⟨_,z⟩
    ·exact ⟨_,z⟩
 have tb: ∀(H:Hp),H t=some (.tbl #[])→aL P w H s₁.heap t (.tbl #[]):=fun H _=>tg
 cases hk:K.lookup a with
 |some o=>
  have e:=KX a o hk
  rw [ha] at e
  cases e
  refine core (fun b=>if b=t then some (.tbl #[]) else none) ⟨fun b n=> .inl (if_neg n),if_pos rfl⟩ (.inr ⟨_,vs.toArray,_,hk,rfl,rfl,rfl,by rw [List.size_toArray,lenV];exact hl,by simpa using rv⟩) (fun b u z=>?_) (fun b z=>?_) fun z=>absurd (if_neg ta.symm) z
  ·
   by_cases hb:b=t
   ·
    have z':=(if_pos hb).symm.trans z
    cases z'
    subst hb
    exact tg
   ·exact absurd ((if_neg hb).symm.trans z) (fun z=>by cases z)
  ·
   by_cases hb:b=t
   ·exact .inr hb
   ·exact absurd (if_neg hb) z
 |none=>
  refine core (fun b=>if b=t then some (.tbl #[]) else if b=a then some (.frz {cls:= .type "list",data:= .seq vs.toArray} (.lst (ns.map V.int))) else none) ⟨fun b n=>?_,if_pos rfl⟩ (.inl (.inr ⟨{cls:= .type "list",data:= .seq vs.toArray},(if_neg ta.symm).trans (if_pos rfl)⟩)) (fun b u z=>?_) (fun b z=>?_) fun _=>hk
  ·
   by_cases hb:b=a
   ·exact .inr ⟨_,_,(if_neg n).trans (if_pos hb)⟩
   ·exact .inl ((if_neg n).trans (if_neg hb))
  ·
   by_cases hb:b=t
   ·
    have z':=(if_pos hb).symm.trans z
    cases z'
    subst hb
    exact tg
   ·
    replace z:=(if_neg hb).symm.trans z
    by_cases hc:b=a
    ·
     have z':=(if_pos hc).symm.trans z
     cases z'
     subst hc
     exact ⟨ha,by rw [List.length_map];exact hl,vs,_,rv,ha⟩
    ·exact absurd ((if_neg hc).symm.trans z) (fun z=>by cases z)
  ·
   by_cases hb:b=t
   ·exact .inr hb
   ·
    by_cases hc:b=a
    ·exact .inl hc
    ·exact absurd ((if_neg hb).trans (if_neg hc)) z
def dc (t:Addr) (K:PySem.W.Frag):Sp:=fun vs H Q _=>match vs with
 | [.ref a]=> ∃ns:List Int,aF K H a (ns.map V.int)∧ns.length≤63∧jK t H∧∀H',Q (.bl true) H'
 |_=>False
theorem iu {l:PySem.W.OpenLaw} {k:Nat} {q:Program} {loose:List Str} {XP:(Str→Option Value)→Heap→Prop} {YP:World→Heap→Prop} {d dr:DefRec} {K:Params→PySem.W.Frag} {x:Str} {t:Addr} (hn:l.most=some 63) (hdf:d.params.defaults= [])
  (hr:bb k callerA) (hY: ∀(w:World) (h:Heap),YP w h→(K w.params).In h) (hdr:dr∈recsOf q) (kt: ∀w:World,(K w.params).lookup t=none)
  (hT: ∀(w:World) (mg:Str→Option Value) (h:Heap),(K w.params).In h→h.Ns mainGlobals mg→∀a o fd c P,mg dr.name=some (.ref a)→h.get? a=some o→o.data = .func fd→fd.code = .ref c→h.TableAt c P #[]→P=t)
  (
   F: ∀(w:World) (mg:Str→Option Value) (fa:Addr) (h:Heap),(K w.params).In h→h.Ns mainGlobals mg→mg d.name=some (.ref fa)→
   ∃fd:FuncData,(∀(s:Shared) (u:Value),BindsTo s fd ⟨[u],[]⟩ [(x,u)])∧∀(base:Heap) (bm:Addr) (ob:Obj),(K w.params).In base→base.Ns mainGlobals mg→mg "__builtins__" = some (.ref bm)→bm≠builtinsNs→base.get? bm=some ob→ob.cls = .type "module" →ob.dict=some builtinsNs→ob.data = .plain→eR l.prog w (K w.params) mg base oo k fa fd [x] (dc t (K w.params))):
  PySem.W.WalkO q loose XP YP l.row.toRowW d [] (fun f vs=>PySem.call f vs):=by
 refine Att.fq hn hdf fun w s₀ s₁ mg mb fa o pm cd doc a vs ns G Y ho hd hcd hmg hobj hints hlen hg=>?_
 have KX:=hY w _ Y
 obtain ⟨fd,hb,hF⟩:=F w mg fa _ KX G.T.g hmg
 obtain ⟨a',o',fd',c,P,t1,t2,t3,t4,_,t6⟩:=G.T.tab dr hdr
 obtain rfl:=hT w mg _ KX G.T.g a' o' fd' c P t1 t2 t3 t4 t6
 obtain ⟨bm,ob,b1,b2,b3,b4,b5,b6⟩:=G.T.bmain
 exact iv KX b3 b4 t6 (kt w) G.T.g G.T.b G.T.builtins G.T.nolimit hg hobj hints (Nat.le_trans hlen (by decide)) hr (fun base h1 h2 h3=>hF base bm ob h1 h2 b1 b2 h3 b4 b5 b6) hb (fun H hO hS=>⟨ns,hS,hlen,hO,fun _=>rfl⟩) fun H e s' z=>z
theorem mI {CX:cB} {P:Program} {w:World} {K:PySem.W.Frag} {mg:Str→Option Value} {base:Heap} {k:Nat} {f:Addr} {name qual:Str} {params:Arguments} {s1 s2 s3:Stmt} {scope:Scope} {dV kV doc pm cdv ct oc:Value} {an od:Option Addr}
  {osl:Array (Option Value)} {N ps:List Str} {sp:Sp} (lk:K.lookup f=some ⟨oc,od,.func (PySem.W.fnOf name qual params [s1,s2,s3] scope dV kV doc pm an cdv ct),osl⟩) (hcd:PySem.W.codeIn K cdv qual=true) (S:aG N ps scope)
  (len: ∀vs H Q E,sp vs H Q E→vs.length=ps.length)
  (
   hbody: ∀(A:Around) (outer:List Env) (s:Shared) (H:Hp) (vs:List V) (Q:VK) (E:XK),bb k (A.deeper (envOfC qual scope s.heap.objs.size f cdv))→sp vs H Q E→
   ∃t1 t2 Nx,PS (aT CX P w K mg base N qual scope f cdv A outer s H E) s1 t1∧PS (aT CX P w K mg base N qual scope f cdv A outer s H E) s2 t2∧jR t1 t2 {nx:=Nx,rt:=fun _ _=>False} (start N vs) H∧
    ∀σ' H' s',Inv (aT CX P w K mg base N qual scope f cdv A outer s H E) [] σ' H' s'→Nx σ' H'→wpAny (model P w) (aT CX P w K mg base N qual scope f cdv A outer s H E).A (execs [s3] (aT CX P w K mg base N qual scope f cdv A outer s H E).env) (fun fl s''=> ∃u,fl = .ret u∧CE outer P w H s Q u s'') (aT CX P w K mg base N qual scope f cdv A outer s H E).xe s'):
  eR P w K mg base CX (k+1) f (PySem.W.fnOf name qual params [s1,s2,s3] scope dV kV doc pm an cdv ct) ps sp:=by
 refine ⟨len,fun A outer s H args us vs Q E hr e0 hb r hsp=>?_⟩
 have hl:=len _ _ _ _ hsp
 have KX:K.In s.heap:=e0.mod.kin.keeps fun b o e=>(e0.bs b o e).1
 have lim:s.heap.NoLimit:=e0.mod.nolimit.keeps fun b o e=>(e0.bs b o e).1
 have hkind: ∀y∈ps.zip us,scope.names.lookup y.1=some .local∨(scope.names.lookup y.1=some .cell∧((cellsFrom (s.heap.objs.size+1) scope.names []).lookup y.1).isSome=true):=fun ⟨n,v⟩ hy=>by
  rcases S.par n (List.of_mem_zip hy).1 with q|q
  ·exact .inl q
  ·exact .inr ⟨q,PySem.W.cellsFrom_some _ _ _ (.inl q)⟩
 refine codeAny_call_function hr.depth (KX _ _ lk) rfl S.co S.gen rfl (PySem.W.codeRec_of KX hcd) (hb _ _ _ _ ?_)
 refine wpAny_newFunctionEnv_cells S.kind hkind fun env he s1' x=>?_
 subst he
 refine ⟨lim.keeps x.toInCall.keep,codeAny_func ?_⟩
 obtain ⟨t1,t2,Nx,h1,h2,hq,h3⟩:=hbody A outer s H vs Q E (hr.deeper _) hsp
 have I:Inv (aT CX P w K mg base N qual scope f cdv A outer s H E) [] (start N vs) H s1':=dW S hr.hd e0 hl r x
 have whole:wpAny (model P w) (aT CX P w K mg base N qual scope f cdv A outer s H E).A (execs [s1,s2,s3] (aT CX P w K mg base N qual scope f cdv A outer s H E).env) (fun fl s''=> ∃u,fl = .ret u∧CE outer P w H s Q u s'') (aT CX P w K mg base N qual scope f cdv A outer s H E).xe s1':=by
  refine wpAny_execs_cons (thn (h1 [] s1' (start N vs) H _ I hq) fun fl sa qa=>?_)
  cases fl with
  |ret v=>obtain ⟨_,_,_,_,_,z⟩:=qa;exact False.elim z
  |brk=>obtain ⟨_,_,_,z⟩:=qa;exact False.elim z
  |cont=>obtain ⟨_,_,_,z⟩:=qa;exact False.elim z
  |next=>
   obtain ⟨σ',H',I',q'⟩:=qa
   refine wpAny_execs_cons (thn (h2 [] sa σ' H' _ I' q') fun fl sb qb=>?_)
   cases fl with
   |ret v=>obtain ⟨_,_,_,_,_,z⟩:=qb;exact False.elim z
   |brk=>obtain ⟨_,_,_,z⟩:=qb;exact False.elim z
   |cont=>obtain ⟨_,_,_,z⟩:=qb;exact False.elim z
   |next=>
    obtain ⟨σ2,H2,I2,q2⟩:=qb
    exact h3 σ2 H2 sb I2 q2
 refine wpAny_mono whole (fun fl s' hs=>?_) fun e s' hs=>hs
 obtain ⟨u,rfl,hs⟩:=hs
 exact hs
def aW (f:Addr) (name qual:Str) (params:Arguments) (body:List Stmt) (scope:Scope) (cl:List (Str×Addr)) (c:Addr) (h:Heap):Prop:=
 ∃doc pm ctv,h.get? f=some {cls:= .type "function",data:= .func (PySem.W.fnX name qual params body scope cl .none .none doc pm none (.ref c) ctv)}
def aZ (c:Addr) (qual:Str) (h:Heap):Prop:=h.CodeRec (.ref c) qual
theorem aW.ok {P:Program} {w:World} {H:Hp} {h:Heap} {f c:Addr} {name qual:Str} {params:Arguments} {body:List Stmt} {scope:Scope} {cl:List (Str×Addr)} (x:aW f name qual params body scope cl c h):aL P w H h f (.ext (aW f name qual params body scope cl c)):=
 ⟨x,let ⟨_,_,_,e⟩:=x;⟨_,e⟩,fun h1 h2 ⟨d,p,ct,e⟩ k=>⟨d,p,ct,k _ e⟩⟩
theorem aZ.ok {P:Program} {w:World} {H:Hp} {h:Heap} {c:Addr} {qual:Str} (x:aZ c qual h):aL P w H h c (.ext (aZ c qual)):=by
 have x':=x
 obtain ⟨c2,o,vs,t,e,g,r⟩:=x'
 cases e
 refine ⟨x,⟨o,g⟩,fun h1 h2 ⟨c3,o',vs',t',e',g',r'⟩ k=>?_⟩
 cases e'
 exact ⟨_,o',vs',t',rfl,k _ g',r'⟩
def iO (cells:List (Str×Addr)) (i:Nat) (t:Addr) (pos:Pos) (name qual:Str) (params:Arguments) (body:List Stmt) (scope:Scope):TS:=fun D σ H=> ∃ps,H t=some (.tbl ps)∧TriplesOk ps.toList∧
  ((codeAmong pos ps.toList=none∧∀f c' cl,H f=none→H c'=none→f≠c'→f≠t→c'≠t→(∀y c,cl.lookup y=some c→cells.lookup y=some c)→(∀y∈scope.names,y.2 = .free→∃c,cl.lookup y.1=some c)→
      D.nx (σ.set i (some (.ref f))) (upd (upd (upd H t (.tbl (ps ++ #[rawInt pos.line,rawInt pos.col,.ref c']))) c' (.ext (aZ c' qual))) f (.ext (aW f name qual params body scope cl c'))))∨
   (∃
      c',codeAmong pos ps.toList=some (.ref c')∧∀f cl,H f=none→(∀y c,cl.lookup y=some c→cells.lookup y=some c)→(∀y∈scope.names,y.2 = .free→∃c,cl.lookup y.1=some c)→
      D.nx (σ.set i (some (.ref f))) (upd H f (.ext (aW f name qual params body scope cl c')))))
theorem je {X:Cx} {name:Str} {params:Arguments} {body:List Stmt} {scope:Scope} {pos:Pos} {c t bm:Addr} {ob:Obj} {i:Nat}
    (hd0:params.defaults= []) (hk0:params.kw_defaults= []) (ha:annTrees params none X.env= []) (hge:X.env.globals=mainGlobals) (hcode:X.env.code = .ref c) (hC: ∀h,X.K.In h→PySem.W.CodeHd h c t)
    (b1:X.mg "__builtins__" = some (.ref bm)) (b2:bm≠builtinsNs) (b3:X.base.get? bm=some ob) (b4:ob.cls = .type "module") (b5:ob.dict=some builtinsNs) (b6:ob.data = .plain)
    (hfr: ∀y∈scope.names,y.2 = .free→∃c,X.env.cells.lookup y.1=some c) (hN:X.N.Nodup) (hi:X.N[i]?=some name) (hf:X.env.scope.names.lookup name=some .local):
    PS X (.FunctionDef name params body [] none [] scope none name pos) (iO X.env.cells i t pos name (qualnameIn X.env name name) params body scope):=by
  intro pins s σ H D I h
  refine PySem.W.nestDef_K hd0 hk0 ha ?_
  obtain ⟨cl,hcl,hc1,hc2⟩:=dB hfr
  obtain ⟨ps,hP,ht,h⟩:=h
  have tg:s.heap.get? t=some {cls:= .none,data:= .fields ps}:=I.hok t _ hP
  have C:=hC _ I.eS
  have G:s.heap.Ns mainGlobals X.mg:=I.mod.glob.keeps I.bk
  have bg:=I.bk bm ob b3
  have gP:mainGlobals≠t:=fun e=>by
    obtain ⟨o,es,ep,g,d,_⟩:=G
    rw [e,tg] at g;cases g;cases d
  have bG:bm≠mainGlobals:=fun e=>by
    obtain ⟨o,es,ep,g,d,_⟩:=G
    rw [←e,bg] at g;cases g;rw [b6] at d;cases d
  have bP:bm≠t:=fun e=>by
    rw [e,tg] at bg;cases bg;cases b4
  have hB:s.heap.BuiltinsAt X.mg t:=⟨bm,ob,b1,b2,bG,bP,bg,b4,b5,b6⟩
  rcases h with ⟨hnf,q⟩|⟨c',hhit,q⟩
  ·
    refine PySem.W.makeFunction_K hcl hge G hcode C tg ht hnf gP hB fun c' ctv doc h' tk hx hgec hlt hrec htb=>?_
    have fs:s.heap.objs.size≤h'.objs.size:=Nat.le_trans hgec (Nat.le_of_lt hlt)
    have nf:=I.hok.fresh fs
    have nc:=I.hok.fresh hgec
    have fc:h'.objs.size≠c':=Nat.ne_of_gt hlt
    have lt:=Heap.lt_size tg
    have ft:h'.objs.size≠t:=Nat.ne_of_gt (Nat.lt_of_lt_of_le lt fs)
    have ct:c'≠t:=Nat.ne_of_gt (Nat.lt_of_lt_of_le lt hgec)
    have keepR: ∀{h1 h2:Heap},h1.CodeRec (.ref c') (qualnameIn X.env name name)→(∀b o,h1.get? b=some o→h2.get? b=some o)→h2.CodeRec (.ref c') (qualnameIn X.env name name):=fun ⟨a1,a2,a3,a4,a5,a6,a7⟩ k=>⟨a1,a2,a3,a4,a5,k _ _ a6,a7⟩
    obtain ⟨F,hF⟩: ∃F:Obj,F=PySem.W.fnMade name (qualnameIn X.env name name) params body scope cl doc ((X.mg "__name__").getD .none) c' ctv:=⟨_,rfl⟩
    rw [←hF]
    have old: ∀b o,b≠t→s.heap.get? b=some o→(h'.push F).get? b=some o:=fun b o n e=>Heap.get?_push_of_some _ (hx b o n e)
    have gf:(h'.push F).get? h'.objs.size=some F:=Heap.get?_push_size _ (by rw [hF];rfl)
    have gt:=Heap.get?_push_of_some F htb
    have gc:(h'.push F).CodeRec (.ref c') (qualnameIn X.env name name):=keepR hrec fun b o e=>Heap.get?_push_of_some _ e
    have up: ∀b u,H b=some u→b≠t→upd (upd (upd H t (.tbl (ps ++ #[rawInt pos.line,rawInt pos.col,.ref c']))) c' (.ext (aZ c' (qualnameIn X.env name name)))) h'.objs.size (.ext (aW h'.objs.size name (qualnameIn X.env name name) params body scope cl c')) b=some u:=fun b u e n=>by
      rw [aa (fun z=>by rw [z,nf] at e;cases e),aa (fun z=>by rw [z,nc] at e;cases e),aa n];exact e
    have nt: ∀b u,H b=some u→(∀qs,u≠ .tbl qs)→b≠t:=fun b u e n z=>by rw [z,hP] at e;cases e;exact n _ rfl
    have I':=I.un (t':=tk) (h':=h'.push F) (H':=upd (upd (upd H t (.tbl (ps ++ #[rawInt pos.line,rawInt pos.col,.ref c']))) c' (.ext (aZ c' (qualnameIn X.env name name)))) h'.objs.size (.ext (aW h'.objs.size name (qualnameIn X.env name name) params body scope cl c')))
      ⟨
       fun b o e n _ _=>old b o (fun z=>by rw [z,hP] at n;cases n) e,fun b o e n _ _=>⟨o.slots,old b o (fun z=>by rw [z,hP] at n;cases n) e⟩,
       fun b o e n _=>by
        have l:=Heap.lt_size e
        rw [aa (Nat.ne_of_lt (Nat.lt_of_lt_of_le l fs)),aa (Nat.ne_of_lt (Nat.lt_of_lt_of_le l hgec)),aa (fun z=>by rw [z,hP] at n;cases n)];exact n,
       fun b o e _=>by
        by_cases z:b=t
        · rw [z];exact ⟨_,gt⟩
        · exact ⟨o,old b o z e⟩,
       fun b xs e=>up b _ e (nt b _ e fun _ z=>by cases z),fun b o u e=>up b _ e (nt b _ e fun _ z=>by cases z),
       fun b qs e=>by
        by_cases z:b=t
        ·
          rw [z,hP] at e;cases e
          exact ⟨_,by rw [z,aa ft.symm,aa ct.symm,af]⟩
        · exact ⟨#[],by rw [Array.append_empty];exact up b _ e z⟩⟩
      (fun b u e=>by
        by_cases z1:b=h'.objs.size
        ·
          rw [z1,af] at e;cases e
          rw [z1]
          exact aW.ok ⟨doc,_,ctv,by rw [gf,hF]⟩
        rw [aa z1] at e
        by_cases z2:b=c'
        ·
          rw [z2,af] at e;cases e
          rw [z2]
          exact aZ.ok gc
        rw [aa z2] at e
        by_cases z3:b=t
        ·
          rw [z3,af] at e;cases e
          rw [z3]
          exact gt
        rw [aa z3] at e
        refine (I.hok b u e).stay (fun b' u' hb e'=>old b' u' ?_ e') (fun b' e'=>up b' _ e' (nt b' _ e' fun _ z=>by cases z)) fun b' xs e'=>up b' _ e' (nt b' _ e' fun _ z=>by cases z)
        rcases hb with rfl|hb
        · exact z3
        · exact nt b' _ hb fun _ z=>by cases z)
    exact cC I' hN hi (.inl hf) (v:= .ref h'.objs.size) rfl (fun s' I''=>⟨_,_,I'',q _ c' cl nf nc fc ft ct hc1 hc2⟩) (.inr hf)
  ·
    refine PySem.W.makeFunction_hit hcl hge G hcode C tg ht hhit hB fun ctv doc h' tk hx fs=>?_
    have nf:=I.hok.fresh fs
    obtain ⟨F,hF⟩: ∃F:Obj,F={cls:= .type "function",data:= .func (PySem.W.fnX name (qualnameIn X.env name name) params body scope cl .none .none doc ((X.mg "__name__").getD .none) none (.ref c') ctv)}:=⟨_,rfl⟩
    rw [←hF]
    have old: ∀b o,s.heap.get? b=some o→(h'.push F).get? b=some o:=fun b o e=>Heap.get?_push_of_some _ (hx b o e)
    have gf:(h'.push F).get? h'.objs.size=some F:=Heap.get?_push_size _ (by rw [hF];rfl)
    have up: ∀b u,H b=some u→upd H h'.objs.size (.ext (aW h'.objs.size name (qualnameIn X.env name name) params body scope cl c')) b=some u:=fun b u e=>by
      rw [aa (fun z=>by rw [z,nf] at e;cases e)];exact e
    have I':=I.un (t':=tk) (h':=h'.push F) (H':=upd H h'.objs.size (.ext (aW h'.objs.size name (qualnameIn X.env name name) params body scope cl c')))
      ⟨
       fun b o e _ _ _=>old b o e,fun b o e _ _ _=>⟨o.slots,old b o e⟩,
       fun b o e n _=>by rw [aa (Nat.ne_of_lt (Nat.lt_of_lt_of_le (Heap.lt_size e) fs))];exact n,
       fun b o e _=>⟨o,old b o e⟩,fun b xs e=>up b _ e,fun b o u e=>up b _ e,fun b qs e=>⟨#[],by rw [Array.append_empty];exact up b _ e⟩⟩
      (fun b u e=>by
        by_cases z1:b=h'.objs.size
        ·
          rw [z1,af] at e;cases e
          rw [z1]
          exact aW.ok ⟨doc,_,ctv,by rw [gf,hF]⟩
        rw [aa z1] at e
        exact (I.hok b u e).stay (fun b' u' hb e'=>old b' u' e') (fun b' e'=>up b' _ e') fun b' xs e'=>up b' _ e')
    exact cC I' hN hi (.inl hf) (v:= .ref h'.objs.size) rfl (fun s' I''=>⟨_,_,I'',q _ cl nf hc1 hc2⟩) (.inr hf)
def aH (c:Addr) (v:V) (h:Heap):Prop:= ∃u,RelV v u∧h.IsCell c (some u)
theorem aH.ok {P:Program} {w:World} {H:Hp} {h:Heap} {c:Addr} {v:V} (x:aH c v h):aL P w H h c (.ext (aH c v)):=
 ⟨x,let ⟨_,_,o,e,_⟩:=x;⟨o,e⟩,fun h1 h2 ⟨u,r,o,e,d⟩ k=>⟨u,r,o,k _ e,d⟩⟩
theorem iU {CX:cB} {P:Program} {w:World} {K:PySem.W.Frag} {mg:Str→Option Value} {base:Heap} {f cell:Addr} {qual x y:Str} {scope:Scope} {cdv:Value} {N:List Str} {A:Around} {outer:List Env} {s s':Shared} {H H':Hp} {E:XK} {Q:VK} {σ':St} {i j:Nat} {v vr:V} {p pos:Pos}
  (I:Inv (aT CX P w K mg base N qual scope f cdv A outer s H E) [] σ' H' s') (hi:N[i]?=some y) (ei:σ'[i]?=some (some v)) (hv:m3 scope y) (hj:N[j]?=some x) (ej:σ'[j]?=some (some vr)) (hk:scope.names.lookup x=some .cell)
  (hc:(aT CX P w K mg base N qual scope f cdv A outer s H E).env.cells.lookup x=some cell) (q:H' cell=none→Q v (upd H' cell (.ext (aH cell vr)))) (hd:(y == ("__debug__" : Str))=false:=by decide) (hcd:(y == ("__classdict__" : Str))=false:=by decide):
  wpAny (model P w) (aT CX P w K mg base N qual scope f cdv A outer s H E).A (execs [.Return (some (.Name y p)) pos] (aT CX P w K mg base N qual scope f cdv A outer s H E).env) (fun fl s''=> ∃u,fl = .ret u∧CE outer P w H s Q u s'') (aT CX P w K mg base N qual scope f cdv A outer s H E).xe s':=by
 refine wpAny_execs_cons (wpAny_Return_some (thn (dq (X:=aT CX P w K mg base N qual scope f cdv A outer s H E) hi hv hd hcd [] s' σ' H' (fun v' H''=>v'=v∧H''=H') I ⟨v,ei,rfl,rfl⟩) fun u s1 ⟨v',H'',I1,r1,e1,e2⟩=>?_))
 subst e1 e2
 obtain ⟨m,hn,hl⟩:=id I1.loc
 obtain ⟨u2,r2,l2⟩:=hl j x vr hj ej (.inr (.inl hk))
 have fr:H'' cell=none:=I1.cb x cell hc
 have big:s.heap.objs.size≤cell:=I1.ok.cab x cell rfl hc
 have hcell:s1.heap.IsCell cell (some u2):=by
  rcases l2 with ⟨z,_⟩|⟨_,c2,h2,h3⟩
  ·
   have z':scope.names.lookup x=some .local:=z
   rw [hk] at z';cases z'
  ·rw [hc] at h2;cases h2;exact h3
 have up: ∀b o,H'' b=some o→upd H'' cell (.ext (aH cell vr)) b=some o:=fun b o e=>by
  rw [aa (fun z=>by rw [z,fr] at e;cases e)];exact e
 have ub:Un (frs outer) [] H H'' s.heap s1.heap:=I1.base
 refine ⟨u,rfl,v',upd H'' cell (.ext (aH cell vr)),I1.os,I1.bare,⟨ub.keep,ub.slot,fun b o e n z=>?_,ub.there,fun b xs e=>up b _ (ub.tups b xs e),fun b o u e=>up b _ (ub.frzs b o u e),fun b ps e=>?_⟩,fun b o e=>?_,r1,q fr⟩
 ·
  rw [aa (Nat.ne_of_lt (Nat.lt_of_lt_of_le (Heap.lt_size e) big))]
  exact ub.free b o e n z
 ·
  obtain ⟨more,e'⟩:=ub.tbls b ps e
  exact ⟨more,up b _ e'⟩
 ·
  by_cases z:b=cell
  ·
   rw [z,af] at e;cases e
   rw [z]
   exact aH.ok ⟨u2,r2,hcell⟩
  ·
   rw [aa z] at e
   exact (I1.hok b o e).stay (fun _ _ _ q=>q) (fun b' e'=>up b' _ e') fun b' xs e'=>up b' _ e'
noncomputable abbrev cV (qual:Str) (scope:Scope) (L f:Addr) (cd:Value) (cl:List (Str×Addr)):Env:=newEnv scope L mainGlobals cl (qual ++ ".<locals>.") (some f) cd none builtinsNs
noncomputable def iF (CX:cB) (P:Program) (w:World) (K:PySem.W.Frag) (mg:Str→Option Value) (base:Heap) (N:List Str) (qual:Str) (scope:Scope) (f:Addr) (cd:Value) (cl:List (Str×Addr)) (A:Around) (outer:List Env) (s:Shared) (H Hm:Hp) (E:XK):Cx where
 prog:=P
 w:=w
 K:=K
 mg:=mg
 base:=base
 A:=A.deeper (cV qual scope s.heap.objs.size f cd cl)
 N:=N
 s₀:=s
 H₀:=Hm
 env:=cV qual scope s.heap.objs.size f cd cl
 outer:=outer
 stack:=cV qual scope s.heap.objs.size f cd cl::outer
 ex:=[]
 calm:=true
 fn:=fun _=>false
 pn:=[]
 xe:=fun e s'=>wpAny (model P w) (A.deeper (cV qual scope s.heap.objs.size f cd cl)) (leaving (cV qual scope s.heap.objs.size f cd cl) e) (fun _ s''=>CX outer H s E e s'') (fun e' s''=>CX outer H s E e' s'') s'
noncomputable def bH (H:Hp) (cell:Addr):Hp:=fun b=>if b=cell then none else H b
structure oX (scope:Scope) (y x:Str):Prop where
 kind:scope.kind = .function
 co:scope.isCoroutine=false
 gen:scope.isGenerator=false
 nocell: ∀z∈scope.names,z.2≠ .cell
 hy:scope.names.lookup y=some .local
 hx:scope.names.lookup x=some .free
 only: ∀z,scope.names.lookup z=some .free→z=x
theorem kO {CX:cB} {P:Program} {w:World} {K:PySem.W.Frag} {mg:Str→Option Value} {base:Heap} {k:Nat} {f c cell:Addr} {name qual x y:Str} {params:Arguments} {body:List Stmt} {scope:Scope} {cl:List (Str×Addr)} {vr:V}
  (S:oX scope y x) (hx:cl.lookup x=some cell) (hc: ∀z d,cl.lookup z=some d→z=x∧d=cell) (hyx:y≠x)
  {A:Around} {outer:List Env} {s:Shared} {H:Hp} {args:Args} {u:Value} {v:V} {Q:VK} {E:XK} (hr:bb (k+1) A) (e0:jM P w K mg base A outer s H)
  (hf:H f=some (.ext (aW f name qual params body scope cl c))) (hcd:H c=some (.ext (aZ c qual))) (hcl:H cell=some (.ext (aH cell vr)))
  (hb: ∀doc pm ctv,BindsTo s (PySem.W.fnX name qual params body scope cl .none .none doc pm none (.ref c) ctv) args [(y,u)]) (rv:RelV v u)
  (
   hbody:bb k (A.deeper (cV qual scope s.heap.objs.size f (.ref c) cl))→∃t,fx (iF CX P w K mg base [y,x] qual scope f (.ref c) cl A outer s H (bH H cell) E) body t∧
   t {nx:=fun _ H'=>H' cell=none→Q .non (upd H' cell (.ext (aH cell vr))),rt:=fun v H'=>H' cell=none→Q v (upd H' cell (.ext (aH cell vr)))} [some v,some vr] (bH H cell)):
  codeAny (model P w) A (.call (.ref f) args) (CR CX outer P w H s Q E) s:=by
 have KX:K.In s.heap:=e0.mod.kin.keeps fun b o e=>(e0.bs b o e).1
 have lim:s.heap.NoLimit:=e0.mod.nolimit.keeps fun b o e=>(e0.bs b o e).1
 obtain ⟨⟨doc,pm,ctv,gf⟩,_,_⟩:=e0.hok f _ hf
 obtain ⟨gc,_,_⟩:=e0.hok c _ hcd
 obtain ⟨⟨uc,rc,oc,goc,doc2⟩,_,_⟩:=e0.hok cell _ hcl
 refine codeAny_call_function hr.depth gf rfl S.co S.gen rfl gc (hb doc pm ctv _ _ _ _ ?_)
 refine wpAny_newFunctionEnv S.nocell (fun z hz=>?_) (fun h' hns hsb=>?_) S.kind
 ·
  rw [List.mem_singleton] at hz
  rw [hz];exact S.hy
 have keep: ∀b o,s.heap.get? b=some o→h'.get? b=some o:=fun b o e=>(hsb.2 b (Nat.ne_of_lt (Heap.lt_size e))).trans (Heap.get?_push_of_some _ e)
 refine ⟨lim.keeps keep,codeAny_func ?_⟩
 obtain ⟨t,ht,hq⟩:=hbody (hr.deeper _)
 have on:bH H cell cell=none:=if_pos rfl
 have dn: ∀b,H b=none→bH H cell b=none:=fun b n=>by
  unfold bH;split
  ·rfl
  ·exact n
 have oc': ∀b o,H b=some o→(∀φ,o≠ .ext φ)→bH H cell b=some o:=fun b o e n=>by
  unfold bH
  rw [if_neg (fun z=>by rw [z,hcl] at e;cases e;exact n _ rfl)];exact e
 have of: ∀b o,bH H cell b=some o→b≠cell∧H b=some o:=fun b o e=>by
  unfold bH at e
  split at e
  ·cases e
  ·exact ⟨‹_›,e⟩
 have ki: ∀z,(cV qual scope s.heap.objs.size f (.ref c) cl).kindOf z=scope.names.lookup z:=fun _=>rfl
 have ok:(iF CX P w K mg base [y,x] qual scope f (.ref c) cl A outer s H (bH H cell) E).Ok:=by
  refine ⟨e0.mod,S.kind,rfl,rfl,Nat.le_refl _,fun a b d h1 h2=>(hc a d h1).1.trans (hc b d h2).1.symm,fun z hz=>?_,fun _ _ z=>(by cases z),fun _=>hr.hd,Around.frames_deeper e0.frames,.inr ⟨rfl,rfl⟩,fun b z=>absurd (show b∈([]:List Addr) from z) (by simp),fun b o e=>⟨(e0.bs b o e).1,dn b (e0.bs b o e).2⟩,e0.bsz,fun b _ _ z=>absurd (show b∈([]:List Addr) from z) (by simp),fun b z=>absurd (show b∈([]:List Addr) from z) (by simp),e0.funs,fun b hb=>dn b (e0.frf b hb)⟩
  rcases hz with hz|hz
  ·exact absurd rfl (S.nocell _ (PySem.mem_of_lookup (show scope.names.lookup z=some .cell from hz)))
  ·rw [S.only z hz];exact ⟨cell,hx⟩
 have I:Inv (iF CX P w K mg base [y,x] qual scope f (.ref c) cl A outer s H (bH H cell) E) [] [some v,some vr] (bH H cell) {s with heap:=h',toks:=s.toks+1}:=by
  refine ⟨ok,rfl,e0.bare,Un.kept keep,⟨_,hns,fun i z v' h1 h2 h3=>?_⟩,fun z d hd=>⟨some uc,oc,?_,doc2⟩,dn _ (e0.hok.fresh (Nat.le_refl _)),fun z d hd=>?_,fun p hp=>absurd (show p∈([]:List (Addr×Obj)) from hp) (by simp),fun b o e=>?_,rfl⟩
  ·
   match i,h1,h2 with
   |0,h1,h2=>
    cases h1;cases h2
    exact ⟨u,rv,.inl ⟨S.hy,by simp⟩⟩
   |1,h1,h2=>
    cases h1;cases h2
    exact ⟨uc,rc,.inr ⟨.inr S.hx,cell,hx,oc,keep _ _ goc,doc2⟩⟩
   |n+2,h1,h2=>simp [iF] at h1
  ·rw [(hc z d hd).2];exact keep _ _ goc
  ·rw [(hc z d hd).2];exact on
  ·
   obtain ⟨_,e'⟩:=of b o e
   exact (e0.hok b o e').stay (fun b' u' _ q=>keep _ _ q) (fun b' e1=>oc' b' _ e1 fun _ z=>by cases z) fun b' xs e1=>oc' b' _ e1 fun _ z=>by cases z
 have fin: ∀{σ':St} {H':Hp} {s':Shared} {v:V} {u:Value},Inv (iF CX P w K mg base [y,x] qual scope f (.ref c) cl A outer s H (bH H cell) E) [] σ' H' s'→RelV v u→(H' cell=none→Q v (upd H' cell (.ext (aH cell vr))))→CE outer P w H s Q u s':=fun {σ' H' s' v u} J rv q=>by
  have ub:Un (frs outer) [] (bH H cell) H' s.heap s'.heap:=J.base
  have cn:=ub.free cell oc goc on (by simp)
  obtain ⟨sl,gcell⟩:=ub.any goc on (by simp)
  have up: ∀b o,H' b=some o→upd H' cell (.ext (aH cell vr)) b=some o:=fun b o e=>by
   rw [aa (fun z=>by rw [z,cn] at e;cases e)];exact e
  refine ⟨v,upd H' cell (.ext (aH cell vr)),J.os,J.bare,⟨fun b o e n=>ub.keep b o e (dn b n),fun b o e n=>ub.slot b o e (dn b n),fun b o e n z=>?_,ub.there,fun b xs e=>up b _ (ub.tups b xs (oc' b _ e fun _ z=>by cases z)),fun b o u e=>up b _ (ub.frzs b o u (oc' b _ e fun _ z=>by cases z)),fun b ps e=>?_⟩,fun b o e=>?_,rv,q cn⟩
  ·
   rw [aa (fun z=>by rw [z,hcl] at n;cases n)]
   exact ub.free b o e (dn b n) z
  ·
   obtain ⟨more,e'⟩:=ub.tbls b ps (oc' b _ e fun _ z=>by cases z)
   exact ⟨more,up b _ e'⟩
  ·
   by_cases z:b=cell
   ·
    rw [z,af] at e;cases e
    rw [z]
    exact aH.ok ⟨uc,rc,_,gcell,doc2⟩
   ·
    rw [aa z] at e
    exact (J.hok b o e).stay (fun _ _ _ q=>q) (fun b' e'=>up b' _ e') fun b' xs e'=>up b' _ e'
 refine wpAny_mono (ht [] _ [some v,some vr] (bH H cell) _ I hq) (fun fl s' hs=>?_) fun e s' hs=>hs
 cases fl with
 |ret u=>
  obtain ⟨v,σ',H',J,rv,q⟩:=hs
  exact fin J rv q
 |next=>
  obtain ⟨σ',H',J,q⟩:=hs
  exact fin (v:=V.non) (u:=Value.none) J rfl q
 |brk=>
  obtain ⟨_,_,_,q⟩:=hs
  exact False.elim q
 |cont=>
  obtain ⟨_,_,_,q⟩:=hs
  exact False.elim q
def jL (H:Hp) (f:Addr):Prop:= ∃name qual params body scope cl c,H f=some (.ext (aW f name qual params body scope cl c))
def oY (X:Cx) (R:Addr→List V→Hp→VK→Prop):Prop:= ∀(pins:List (Addr×Obj)) (s:Shared) (σ:St) (H:Hp) (f:Addr) (us:List Value) (vs:List V) (Q:VK),Inv X pins σ H s→Vals vs us→R f vs H Q→wpAny (model X.prog X.w) X.A (call (.ref f) us) (EP X pins σ Q) X.xe s
def la (i:Nat) (R:Addr→List V→Hp→VK→Prop) (t:TA):TE:=fun σ H Q=> ∃f,σ[i]?=some (some (.ref f))∧jL H f∧t σ H fun vs H1=>jL H1 f∧R f vs H1 Q
theorem jL.at {X:Cx} {pins:List (Addr×Obj)} {σ:St} {H:Hp} {s:Shared} {f:Addr} (h:jL H f) (I:Inv X pins σ H s):PySem.W.FnAt f s.heap:=by
 obtain ⟨_,_,_,_,_,_,_,h⟩:=h
 obtain ⟨⟨_,_,_,e⟩,_⟩:=I.hok f _ h
 exact ⟨_,_,_,_,e⟩
theorem en {X:Cx} {R:Addr→List V→Hp→VK→Prop} {i:Nat} {y:Str} {e:Expr} {es:List Expr} {t:TA} {p pos:Pos} (hR:oY X R) (hN:X.N[i]?=some y) (hv:m3 X.env.scope y) (ha:PA X (e::es) t)
  (hd:(y == ("__debug__" : Str))=false:=by decide) (hcd:(y == ("__classdict__" : Str))=false:=by decide) (h:(e::es).any isStar=false:=by rfl):PE X (.Call (.Name y p) (e::es) [] pos) (la i R t):=by
 rw [List.any_cons,Bool.or_eq_false_iff] at h
 have he:=aS (env:=X.env) (es:=es) h.1
 have hpl:=cI (env:=X.env) (pos:=pos) h.2
 intro pins s σ H Q I q
 obtain ⟨f,ei,hf,q⟩:=q
 refine wpAny_Call_Name_kw (thn (dq hN hv hd hcd pins s σ H (fun v H''=>v = .ref f∧H''=H) I ⟨.ref f,ei,rfl,rfl⟩) fun u s1 ⟨v,H'',I1,r,e1,e2⟩=>?_)
 subst e1 e2
 obtain rfl:u = .ref f:=r
 exact PySem.W.callWith_F (hf.at I1) (thn (ha pos pins s1 σ _ _ I1 q) fun us s2 ⟨vs,H2,I2,rv,hf2,q2⟩=>⟨hf2.at I2,hR pins s2 σ H2 f us vs Q I2 rv q2⟩) he hpl
theorem mS {X:Cx} {CX:cB} [Quiet CX] {k n:Nat} {name qual x y:Str} {params:Arguments} {body:List Stmt} {scope:Scope} {R:Addr→List V→Hp→VK→Prop} (S:oX scope y x) (hyx:y≠x) (hr:bb n X.A) (hk:k+1≤n)
  (
   hR: ∀f vs H Q,R f vs H Q→∃v cell vr cl c,vs= [v]∧H f=some (.ext (aW f name qual params body scope cl c))∧H c=some (.ext (aZ c qual))∧H cell=some (.ext (aH cell vr))∧cl.lookup x=some cell∧(∀z d,cl.lookup z=some d→z=x∧d=cell)∧
   (∀(s:Shared) (u:Value) doc pm ctv,BindsTo s (PySem.W.fnX name qual params body scope cl .none .none doc pm none (.ref c) ctv) ⟨[u],[]⟩ [(y,u)])∧
   ∀(s:Shared),bb k (X.A.deeper (cV qual scope s.heap.objs.size f (.ref c) cl))→∃t,fx (iF CX X.prog X.w X.K X.mg X.base [y,x] qual scope f (.ref c) cl X.A X.stack s H (bH H cell) E0) body t∧
    t {nx:=fun _ H'=>H' cell=none→Q .non (upd H' cell (.ext (aH cell vr))),rt:=fun v H'=>H' cell=none→Q v (upd H' cell (.ext (aH cell vr)))} [some v,some vr] (bH H cell)):oY X R:=by
 intro pins s σ H f us vs Q I rv q
 obtain ⟨v,cell,vr,cl,c,rfl,h1,h2,h3,h4,h5,h6,h7⟩:=hR f vs H Q q
 obtain ⟨u,rfl,ru⟩:=rv.one
 refine wpAny_call (codeAny_mono (kO (CX:=CX) (E:=E0) S h4 h5 hyx (hr.mono hk) I.n_ h1 h2 h3 (h6 s u) ru (h7 s)) fun r s' hq=>?_)
 cases r with
 |error e=>exact Quiet.pass X pins σ H s e s' I hq
 |ok fl=>
  cases fl with
  |ret u=>exact I.after hq
  |next=>exact False.elim hq
  |brk=>exact False.elim hq
  |cont=>exact False.elim hq
theorem bh.pw {P:Program} {w:World} {K:PySem.W.Frag} {mg:Str→Option Value} {base:Heap} {CX:cB} {x:Str} {st s1 s2 s3:Stmt} {N ps:List Str} {k:Nat} {sp:Sp} {c:Addr} (F:bh K mg x st) (hc: ∀f fd,mg x=some (.ref f)→lr K x x st f fd→fd.code = .ref c) (eb:aw st= [s1,s2,s3]) (S:aG N ps (ae st))
  (hb: ∀(kV doc pm:Value) (an:Option Addr) (cdv ct:Value) (us:List Value),us.length=ps.length→bindArgs (PySem.W.fnOf x x (aJ st) (aw st) (ae st) .none kV doc pm an cdv ct) ⟨us,[]⟩=pure (ps.zip us))
  (len: ∀vs H Q E,sp vs H Q E→vs.length=ps.length)
  (
   hbody: ∀(f:Addr) (A:Around) (outer:List Env) (s:Shared) (H:Hp) (vs:List V) (Q:VK) (E:XK),bb k (A.deeper (envOfC x (ae st) s.heap.objs.size f (.ref c)))→sp vs H Q E→
   ∃t1 t2 Nx,PS (aT CX P w K mg base N x (ae st) f (.ref c) A outer s H E) s1 t1∧PS (aT CX P w K mg base N x (ae st) f (.ref c) A outer s H E) s2 t2∧jR t1 t2 {nx:=Nx,rt:=fun _ _=>False} (start N vs) H∧
    ∀σ' H' s',Inv (aT CX P w K mg base N x (ae st) f (.ref c) A outer s H E) [] σ' H' s'→Nx σ' H'→wpAny (model P w) (aT CX P w K mg base N x (ae st) f (.ref c) A outer s H E).A (execs [s3] (aT CX P w K mg base N x (ae st) f (.ref c) A outer s H E).env) (fun fl s''=> ∃u,fl = .ret u∧CE outer P w H s Q u s'') (aT CX P w K mg base N x (ae st) f (.ref c) A outer s H E).xe s'):FnAt P w K mg base CX x (k+1) ps sp:=by
 obtain ⟨f,fd,F,hm⟩:=F
 have bd:=F.binds hb
 have kp:=F.kp
 have ec:=hc f fd hm F
 obtain ⟨oc,od,kV,doc,pm,an,cdv,ct,osl,rfl,lk,hcd⟩:=F.ex
 have ec':cdv = .ref c:=ec
 subst ec'
 rw [eb] at lk bd
 exact ⟨f,_,mI lk hcd S len fun A outer s H vs Q E hr hsp=>hbody f A outer s H vs Q E hr hsp,hm,kp,bd,oc,od,osl,lk⟩
theorem jk {P:Program} {w:World} {K:PySem.W.Frag} {mg:Str→Option Value} {CX:cB} {k:Nat} {fa:Addr} {x nm:Str} {st:Stmt} {sp:Sp} (hmg:mg nm=some (.ref fa)) (D:bh K mg nm st)
  (hb: ∀(kV doc pm:Value) (an:Option Addr) (cdv ct:Value) (us:List Value),us.length=([x]:List Str).length→bindArgs (PySem.W.fnOf nm nm (aJ st) (aw st) (ae st) .none kV doc pm an cdv ct) ⟨us,[]⟩=pure (([x]:List Str).zip us))
  (ok: ∀(base:Heap) (bm:Addr) (ob:Obj),mg "__builtins__" = some (.ref bm)→bm≠builtinsNs→base.get? bm=some ob→ob.cls = .type "module" →ob.dict=some builtinsNs→ob.data = .plain→FnAt P w K mg base CX nm k [x] sp):
  ∃fd:FuncData,(∀(s:Shared) (u:Value),BindsTo s fd ⟨[u],[]⟩ [(x,u)])∧∀(base:Heap) (bm:Addr) (ob:Obj),K.In base→base.Ns mainGlobals mg→mg "__builtins__" = some (.ref bm)→bm≠builtinsNs→base.get? bm=some ob→ob.cls = .type "module" →ob.dict=some builtinsNs→ob.data = .plain→eR P w K mg base CX k fa fd [x] sp:=by
 obtain ⟨f,fd,F,hm⟩:=D
 rw [hmg] at hm
 cases hm
 obtain ⟨oc,od,kV,doc,pm,an,cdv,ct,osl,e,lk,hcd⟩:=F.ex
 refine ⟨fd,fun s u=>?_,fun base bm ob _ _ b1 b2 b3 b4 b5 b6=>?_⟩
 ·
  rw [e]
  exact .of_eq (hb kV doc pm an cdv ct [u] rfl)
 ·
  obtain ⟨f',fd',h,hm',_,_,oc',od',osl',lk'⟩:=ok base bm ob b1 b2 b3 b4 b5 b6
  rw [hmg] at hm'
  cases hm'
  rw [lk] at lk'
  cases lk'
  exact h
theorem kQ {K:PySem.W.Frag} {h:Heap} {mg:Str→Option Value} {x:Str} {st:Stmt} {f c:Addr} {o:Obj} (X:K.In h) (G:h.Ns mainGlobals mg) (a:PySem.W.nsIn K mainGlobals x=some (some (.ref f))) (l:K.lookup f=some o)
  (e: ∀fd,o.data = .func fd→fd.code = .ref c): ∀f fd,mg x=some (.ref f)→lr K x x st f fd→fd.code = .ref c:=by
 intro f' fd hm F
 rw [PySem.W.mg_of X G a] at hm
 cases hm
 obtain ⟨oc,od,kV,doc,pm,an,cdv,ct,osl,_,lk,_⟩:=F.ex
 rw [l] at lk
 cases lk
 exact e fd rfl
theorem lB {K:PySem.W.Frag} {h:Heap} {mg:Str→Option Value} {x:Str} {f c t:Addr} {o:Obj} (X:K.In h) (G:h.Ns mainGlobals mg) (a:PySem.W.nsIn K mainGlobals x=some (some (.ref f))) (l:K.lookup f=some o)
  (e: ∀fd,o.data = .func fd→fd.code = .ref c) (lc: ∀h,K.In h→PySem.W.CodeHd h c t): ∀a' o' fd c' P,mg x=some (.ref a')→h.get? a'=some o'→o'.data = .func fd→fd.code = .ref c'→h.TableAt c' P #[]→P=t:=by
 intro a' o' fd c' P hm hg hd hcd hT
 rw [PySem.W.mg_of X G a] at hm
 cases hm
 have g:=X _ _ l
 rw [hg] at g
 cases g
 rw [e fd hd] at hcd
 cases hcd
 obtain ⟨o1,vs1,_,_,_,_,_,_,_,g1,_,g3,g4,_⟩:=lc h X
 obtain ⟨⟨o2,vs2,k1,k2,k3,k4⟩,_⟩:=hT
 rw [g1] at k1
 cases k1
 rw [g3] at k3
 cases k3
 rw [g4] at k4
 cases k4
 rfl
theorem dZ {K:PySem.W.Frag} {c t:Addr} {o:Obj} (l:K.lookup c=some o) (h: ∃vs file tf flags tg inF text tt,o.cls = .type "code" ∧o.data = .fields vs∧vs[11]?=some (.ref t)∧vs.getD 11 .none = .ref t∧vs.getD 18 .none = .str file tf∧
  vs.getD 7 .none = .int flags tg∧vs.getD 9 .none = .bool inF∧vs.getD 10 .none = .int text tt∧c≠t): ∀h,K.In h→PySem.W.CodeHd h c t:=by
 intro hp X
 obtain ⟨vs,file,tf,flags,tg,inF,text,tt,h⟩:=h
 exact ⟨o,vs,file,tf,flags,tg,inF,text,tt,X _ _ l,h⟩
end L2
namespace K21
open PySem L2 Com
def c_ (u:TS):TS:=u
theorem cE {X:Cx} {l:List Stmt} {u:TS} (h:fx X l u):fx X l (c_ u):=h
theorem jr {u:TS} {D:Ends} {σ:St} {H:Hp} (h: ∀D',D'=D→u D' σ H):u D σ H:=h D rfl
noncomputable def top (i:Nat):Stmt:=PySem.Challenge.pw_slowroad_k21_rule.main.body.getD i (.Pass ⟨0,0,0,0⟩)
abbrev jN (ps:List Str) (x y:Str) (s:Stmt):Prop:= ∀(kV doc pm:Value) (an:Option Addr) (cdv ct:Value) (us:List Value),us.length=ps.length→bindArgs (PySem.W.fnOf x y (aJ s) (aw s) (ae s) .none kV doc pm an cdv ct) ⟨us,[]⟩=pure (ps.zip us)
theorem lj {α:Type} {us:List α} (h:us.length=1): ∃a0,us= [a0]:=List.length_eq_one_iff.mp h
theorem nV {α:Type} {us:List α} (h:us.length=2): ∃a0 a1,us= [a0,a1]:=by
 obtain ⟨a,t,rfl⟩:=List.exists_cons_of_length_eq_add_one h
 obtain ⟨b0,rfl⟩:=lj (Nat.succ.inj h)
 exact ⟨a,b0,rfl⟩
set_option hygiene false in
local macro_rules | `(tactic| exists 2) => `(tactic| exact ⟨rfl,rfl,rfl,by decide +kernel,rfl,by decide +kernel,by decide +kernel⟩)
set_option hygiene false in
local macro_rules | `(tactic| exists 3) => `(tactic| (intro _ _ _ _ _ _ us hl; first | (obtain ⟨_,rfl⟩ := lj hl; rfl) | (obtain ⟨_,_,rfl⟩ := nV hl; rfl)))
noncomputable abbrev dh:Stmt:=top 1
theorem g8:aG ["deeds"] ["deeds"] (ae dh):=by exists 2
theorem iJ:jN ["deeds"] "copied" "copied" dh:=by exists 3
noncomputable abbrev cR:Stmt:=top 2
theorem fJ:aG ["deeds","sending"] ["deeds","sending"] (ae cR):=by exists 2
theorem gi:jN ["deeds","sending"] "deed_at" "deed_at" cR:=by exists 3
noncomputable abbrev bc:Stmt:=top 3
theorem d9:aG ["deeds","row","deed_of"] ["deeds"] (ae bc):=by exists 2
theorem kU:jN ["deeds"] "rule" "rule" bc:=by exists 3
noncomputable abbrev bL:Stmt:=top 5
theorem dG:aG ["_law_found"] ["_law_found"] (ae bL):=by exists 2
theorem dJ:jN ["_law_found"] "_law_whole" "_law_whole" bL:=by exists 3
noncomputable abbrev bu:Stmt:=top 6
theorem cX:aG ["_law_script","_law_k"] ["_law_script","_law_k"] (ae bu):=by exists 2
theorem c4:jN ["_law_script","_law_k"] "_law_cell_at" "_law_cell_at" bu:=by exists 3
noncomputable abbrev bM:Stmt:=top 7
theorem a9:aG ["_law_cell","_law_k","_law_number","_law_turn"] ["_law_cell","_law_k"] (ae bM):=by exists 2
theorem dM:jN ["_law_cell","_law_k"] "_law_mixed" "_law_mixed" bM:=by exists 3
noncomputable abbrev bY:Stmt:=top 8
theorem aD:aG ["_law_cell","_law_k","_law_number","_law_deed_here","_law_at","_law_part","_law_run"] ["_law_cell","_law_k"] (ae bY):=by exists 2
theorem eN:jN ["_law_cell","_law_k"] "_law_deed" "_law_deed" bY:=by exists 3
noncomputable abbrev bN:Stmt:=top 9
theorem cm:aG ["_law_found","_law_due_here","_law_copy"] ["_law_found","_law_due_here"] (ae bN):=by exists 2
theorem dN:jN ["_law_found","_law_due_here"] "_law_alike" "_law_alike" bN:=by exists 3
noncomputable abbrev cu:Stmt:=top 10
theorem eY:aG ["_law_deeds","_law_number"] ["_law_deeds","_law_number"] (ae cu):=by exists 2
theorem fo:jN ["_law_deeds","_law_number"] "_law_due" "_law_due" cu:=by exists 3
noncomputable abbrev iS:Stmt:=top 11
theorem br:aG ["_law_script","_law_many","_law_deeds","_law_others","_law_handed","_law_told","_law_beside","_law_k","_law_cell","_law_number","_law_found"] ["_law_script"] (ae iS):=by exists 2
theorem jF:jN ["_law_script"] "law" "law" iS:=by exists 3
structure Txt (K:PySem.W.Frag) (mg:Str→Option Value):Prop where
 dA:bh K mg "copied" dh
 cT:bh K mg "deed_at" cR
 f_:bh K mg "rule" bc
 bR:bh K mg "_law_whole" bL
 bw:bh K mg "_law_cell_at" bu
 bS:bh K mg "_law_mixed" bM
 cc:bh K mg "_law_deed" bY
 bT:bh K mg "_law_alike" bN
 cy:bh K mg "_law_due" cu
 gS:bh K mg "law" iS
 jH:mg "all" = none
 gj:mg "bool" = none
 jG:mg "int" = none
 aN:mg "isinstance" = none
 cN:mg "len" = none
 cU:mg "list" = none
 bU:mg "range" = none
 eO:mg "tuple" = none
theorem none_of {H H':Hp} {a:Addr} (s:aC H H') (h:H' a=none):H a=none:=by
 cases q:H a with
 |none=>rfl
 |some o=>rw [s _ _ q] at h;cases h
def fw (H:Hp) (c:Addr) (d p r:Int):Prop:=H c=some (.tup [.int d,.int p,.int r])
noncomputable abbrev Cp:=Int×Int×Int
def ay (H:Hp) (x:Addr) (ds:List Cp):Prop:= ∃cs:List Addr,H x=some (.lst (cs.map V.ref))∧Paired (fun c (d:Cp)=>fw H c d.1 d.2.1 d.2.2) cs ds∧ds.length≤1000
def bf (H:Hp) (x:Addr) (dss:List (List Cp)):Prop:= ∃xs:List Addr,H x=some (.lst (xs.map V.ref))∧Paired (ay H) xs dss∧dss.length≤1000
theorem aq {α β:Type} {R:α→β→Prop} {xs:List α} {ys:List β} (p:Paired R xs ys):xs.length=ys.length:=by
 induction p with
 |nil=>rfl
 |cons _ _ ih=>simp [ih]
theorem aQ {α β:Type} {R:α→β→Prop} {xs:List α} {ys:List β} (p:Paired R xs ys) {i:Nat} {x:α} (h:xs[i]?=some x): ∃y,ys[i]?=some y∧R x y:=by
 induction p generalizing i with
 |nil=>simp at h
 |cons r _ ih=>
  cases i with
  |zero=>simp at h;subst h;exact ⟨_,rfl,r⟩
  |succ i=>simpa using ih (by simpa using h)
theorem aj {α β:Type} {R R':α→β→Prop} {xs:List α} {ys:List β} (p:Paired R xs ys) (h: ∀x y,R x y→R' x y):Paired R' xs ys:=by
 induction p with
 |nil=>exact .nil
 |cons r _ ih=>exact .cons (h _ _ r) ih
theorem ay.same {H H':Hp} {x:Addr} {ds:List Cp} (h:ay H x ds) (s:aC H H'):ay H' x ds:=by
 obtain ⟨cs,h1,h2,h3⟩:=h
 exact ⟨cs,s _ _ h1,aj h2 fun c d q=>s _ _ q,h3⟩
theorem bf.same {H H':Hp} {x:Addr} {dss:List (List Cp)} (h:bf H x dss) (s:aC H H'):bf H' x dss:=by
 obtain ⟨xs,h1,h2,h3⟩:=h
 exact ⟨xs,s _ _ h1,aj h2 fun c d q=>q.same s,h3⟩
def fv (H0 H:Hp) (p:Addr) (dss:List (List Cp)):Prop:=H0 p=none∧∃xs:List Addr,H p=some (.lst (xs.map V.ref))∧Paired (fun x ds=>H0 x=none∧ay H x ds) xs dss∧dss.length≤1000
theorem bz {α β:Type} {R:α→β→Prop} {xs:List α} {ys:List β} {x:α} {y:β} (p:Paired R xs ys) (r:R x y):Paired R (xs++ [x]) (ys++ [y]):=by
 induction p with
 |nil=>exact .cons r .nil
 |cons q _ ih=>exact .cons q ih
def cP:Sp:=fun vs H Q E=>match vs with
 | [.ref x]=> ∃dss,bf H x dss∧∀p H',aC H H'→fv H H' p dss→Q (.ref p) H'
 |_=>False
def cq:Sp:=fun vs H Q E=>match vs with
 | [.ref x,.int n]=> ∃dss,bf H x dss∧∀p H',aC H H'→H p=none→ay H' p (if dss.length=0 then [(1,0,0)] else dss.getD (n % dss.length).toNat [])→Q (.ref p) H'
 |_=>False
def aO (K:PySem.W.Frag):Sp:=fun vs H Q E=>match vs with
 | [.ref a,.int k]=> ∃ns:List Int,aF K H a (ns.map V.int)∧0≤k∧∀n,Q (.int n) H
 |_=>False
def bD:Sp:=fun vs H Q E=>match vs with
 | [.int c,.int k]=>0≤k∧∀v,0≤v→v<2147483648→Q (.int v) H
 |_=>False
def bB:Sp:=fun vs H Q E=>match vs with
 | [.int i]=>Q (.bl true) H
 |_=>False
def bj:Sp:=fun vs H Q E=>match vs with
 | [.int c,.int k]=>0≤k∧∀p ds H',aC H H'→H p=none→ay H' p ds→ds.length≤3→Q (.ref p) H'
 |_=>False
def bF:Sp:=fun vs H Q E=>match vs with
 | [.ref p,.ref d]=> ∃ds,ay H p ds∧ay H d ds∧∀H',aC H H'→Q (.bl true) H'
 |_=>False
def bX:Sp:=fun vs H Q E=>match vs with
 | [.ref x,.int n]=> ∃dss,bf H x dss∧∀p H',aC H H'→ay H' p (if dss.length=0 then [(1,0,0)] else dss.getD (n % dss.length).toNat [])→Q (.ref p) H'
 |_=>False
noncomputable def gL:Stmt→Pos
 | .FunctionDef _ _ _ _ _ _ _ _ _ p=>p
 |_=>⟨0,0,0,0⟩
noncomputable abbrev r1:Stmt:=(aw bc).getD 0 (.Pass ⟨0,0,0,0⟩)
noncomputable abbrev r2:Stmt:=(aw bc).getD 1 (.Pass ⟨0,0,0,0⟩)
noncomputable abbrev r3:Stmt:=(aw bc).getD 2 (.Pass ⟨0,0,0,0⟩)
noncomputable abbrev iq:Str:="rule.<locals>.deed_of"
def Tb (t:Addr) (H:Hp):Prop:=H t=some (.tbl #[])∨∃c',H t=some (.tbl #[rawInt (gL r2).line,rawInt (gL r2).col,.ref c'])∧H c'=some (.ext (aZ c' iq))
def Told (H:Hp) (f pr:Addr):Prop:= ∃cell cl c',H f=some (.ext (aW f "deed_of" iq (aJ r2) (aw r2) (ae r2) cl c'))∧H c'=some (.ext (aZ c' iq))∧H cell=some (.ext (aH cell (.ref pr)))∧cl.lookup ("row" : Str)=some cell∧∀z d,cl.lookup z=some d→z=("row" : Str)∧d=cell
structure oU (K:PySem.W.Frag) (mg:Str→Option Value) (base:Heap) (c t bm:Addr) (ob:Obj):Prop where
 hc: ∀f fd,mg "rule" = some (.ref f)→lr K "rule" "rule" bc f fd→fd.code = .ref c
 hC: ∀h,K.In h→PySem.W.CodeHd h c t
 b1:mg "__builtins__" = some (.ref bm)
 b2:bm≠builtinsNs
 b3:base.get? bm=some ob
 b4:ob.cls = .type "module"
 b5:ob.dict=some builtinsNs
 b6:ob.data = .plain
def d7 (t:Addr):Sp:=fun vs H Q _=>match vs with
 | [.ref d]=> ∃dss,bf H d dss∧Tb t H∧∀f pr H',(∀b o,H b=some o→b≠t→H' b=some o)→fv H H' pr dss→H f=none→Tb t H'→Told H' f pr→Q (.ref f) H'
 |_=>False
set_option compiler.extract_closed false in
local macro_rules | `(tactic| exists $es,*) => `(tactic| simp only [m7,m6,m8,o8,gX,tC,jV,cK,jR,k_,lG,ni,ng,k7,tB,m9,nk,o3,dR,ck,fB,mY,lE,lb,oB,k9,o_,gn,oZ,jU,k8,kb,lR,lL,n9,n6,ef,ed,ee,d_,fS,fK,ia,h_,hW,hV,j4,j5,j3,j6,j7,j1,j2,hJ,hU,i_,i1,i9,i0,ke,j0,j8,fN,lQ,lP,nj,oq,jP,jO,e_,iX,i4,i5,iP,g0,gZ,gY,g6,fG,fF,fE,hE,g_,g9,gd,jc,jb,iW,fM,eZ,eg,eh,hG,m4,m_,pj,o9,js,fY,jt,oP,jQ,gn,fH,iR,Option.join_some,k6,lu,kZ,mP,mK,
 L2.start,List.map_cons,List.map_nil,List.length_cons,List.length_nil,List.replicate_zero,List.replicate_succ,List.append_nil,List.nil_append,List.cons_append,List.getElem?_cons_zero,List.getElem?_cons_succ,List.set_cons_zero,List.set_cons_succ,decide_eq_true_eq,Bool.not_eq_true',decide_eq_false_iff_not,if_true,if_false,ite_true,ite_false,Bool.false_eq_true,true_and,and_true,Bool.not_true,Bool.not_false,Int.reduceLT,Int.reduceLE,Int.reducePow,Int.reduceToNat,Int.reduceAdd,Int.reduceSub,Int.reduceMul,Int.reduceNeg,Nat.reducePow,Nat.reduceLT,Nat.reduceLeDiff,true_or,or_true,Int.reduceEq,and_self,Nat.reduceAdd,Nat.reduceSub,Int.neg_neg,reduceCtorEq,not_true_eq_false,not_false_eq_true,
 cP,cq,aO,bD,bB,bj,bF,bX,la,oA,pf,ph,nX,nY,lF,lC,oC,Ends.un,jT,jS,nq,nh,h8,mL,mM,n5,mJ,i8,iZ,i7,iY,kd,jZ,iy,ly,lx,hZ,i3,iB,kM,kN,jl,mr,mv,kH,fO,lD,fP,n8,fR,e8,fL,e7,e9,hX,$[$es:term],*])
local macro_rules | `(tactic| walk_at "wps") => `(tactic| exists true_and)
section
variable {P:Program} {w:World} {K:PySem.W.Frag} {mg:Str→Option Value} {base:Heap}
variable (T:Txt K mg)
set_option hygiene false in
local macro_rules | `(tactic| exists 0, $a, $b, $c, $d:ident) => `(tactic| (refine ($a).fn $b $c (fun vs H Q E h => ?_) fun f cdv A outer s H vs Q E HR h => ?_; (unfold $d at h; split at h <;> first | rfl | exact h.elim); unfold $d at h; split at h; rotate_left; exact h.elim))
set_option hygiene false in
local macro_rules | `(tactic| exists 1, $a, $b, $c, $d:ident) => `(tactic| (refine ($a).fnX $b $c (fun vs H Q E h => ?_) fun f cdv A outer s H vs Q E HR h => ?_; (unfold $d at h; split at h <;> first | rfl | exact h.elim); unfold $d at h; split at h; rotate_left; exact h.elim))
include T in theorem ij:FnAt P w K mg base (iM P w) "copied" 1 ["deeds"] cP:=by
 exists 0,T.dA,g8,iJ,cP
 rename_i x
 refine ⟨_,(ar (aB (gz (N:=(["deed"]:List Str)) (nv:=1) (ix:=[]) rfl (fi (by kernel_rfl)) (cG K rfl (pv 0)) (fun _ _ _ _ _=>(a_ (i:=0) (show ((["deed"]:List Str)).Nodup by decide) rfl (Or.inl rfl))) (fun _ _ _ _ _=>cD) (fun _ _ _ _ _=>(cv (cz K rfl) (by rfl) T.cU c9 (ao (pv 0) ag)))))),?_⟩
 obtain ⟨dss,⟨xs,h1,h2,h3⟩,q⟩:=h
 have ln:=aq h2
 walk_at "wps"
 refine fj (aF.of h1) (aI (by rw [List.length_map,ln];exact h3)) (fun i ys σ H'=>aC H H'∧∃zs:List Addr,ys=zs.map V.ref∧Paired (fun x ds=>H x=none∧ay H' x ds) zs (dss.take i)∧∃v,σ= [v]) ⟨aC.refl _,[],rfl,.nil,none,rfl⟩ (fun i ys σ H' hh=>?_) (fun i ys σ H' hh=>aF.of (hh.1 _ _ h1)) (fun i y ys σ H' hy hh=>?_) (fun ys σ H' hh=>?_)
 ·
  obtain ⟨_,zs,e,p,_⟩:=hh
  rw [e,List.length_map,aq p]
  exact List.length_take_le _ _
 ·
  obtain ⟨sm,zs,e,p,v,eσ⟩:=hh
  subst eσ e
  rw [List.getElem?_map] at hy
  obtain ⟨y,ey,rfl⟩:=Option.map_eq_some_iff.mp hy
  obtain ⟨ds,eds,hD⟩:=aQ h2 ey
  obtain ⟨cs,d1,d2,d3⟩:=hD.same sm
  walk_at "wps"
  refine ⟨_,.inl (aF.of d1),fun l nl=>⟨sm.trans (ak nl),zs++ [l],by simp,?_⟩⟩
  rw [List.take_add_one,eds]
  refine ⟨?_,_,rfl⟩
  exact bz (R:=fun x ds=>H x=none∧ay (upd H' l (.lst (cs.map V.ref))) x ds) (y:=ds) (aj p fun a b q=>⟨q.1,q.2.same (ak nl)⟩) ⟨none_of sm nl,cs,af,aj d2 (fun c d q=>a8 q nl),d3⟩
 ·
  obtain ⟨sm,zs,e,p,v,eσ⟩:=hh
  subst eσ e
  rw [List.length_map,ln,List.take_length] at p
  exact ⟨aI (by rw [List.length_map,aq p];exact h3),fun l nl=>q l _ (sm.trans (ak nl)) ⟨none_of sm nl,zs,af,aj p fun a b r=>⟨r.1,r.2.same (ak nl)⟩,h3⟩⟩
include T in theorem fV:FnAt P w K mg base (iM P w) "deed_at" 1 ["deeds","sending"] cq:=by
 exists 0,T.cT,fJ,gi,cq
 rename_i x n
 refine ⟨_,(ai (b7 (bo (c8 K rfl HR.units) (az (aY K rfl) (by rfl) T.cN cA (ao (pv 0) ag)) ah (nomark _)) (ar (aB (du (ao (dt (ao ah (ao ah (ao ah ag)))) ag)))) aU)
 (ar (aB (cv (cz K rfl) (by rfl) T.cU c9 (ao (gy (kA K rfl) (pv 0) (ax aX (pv 1) (az (aY K rfl) (by rfl) T.cN cA (ao (pv 0) ag))) (fun _ _=>rfl)) ag))))),?_⟩
 obtain ⟨dss,⟨xs,h1,h2,h3⟩,q⟩:=h
 have ln:=aq h2
 walk_at "wps"
 refine ⟨_,.inl (aF.of h1),?_⟩
 rw [List.length_map,ln]
 by_cases c:dss.length=0
 ·
  rw [if_pos (by omega)]
  rw [if_pos c] at q
  intro p1 n1 p2 n2
  exact q p2 _ ((ak n1).trans (ak n2)) (iC n2) ⟨[p1],af,.cons (a8 af n2) .nil,by simp⟩
 rw [if_neg (by omega)]
 rw [if_neg c] at q
 refine ⟨_,.inl (aF.of h1),?_⟩
 rw [List.length_map,ln]
 refine ⟨by omega,?_⟩
 have m0:=Int.emod_nonneg n (show ((dss.length:Nat):Int)≠0 by omega)
 have m1:=Int.emod_lt_of_pos n (show (0:Int)<((dss.length:Nat):Int) by omega)
 obtain ⟨j,hj⟩: ∃j:Nat,n % (dss.length:Int)=(j:Int):=⟨(n % (dss.length:Int)).toNat,by omega⟩
 rw [hj] at m1⊢
 rw [hj,Int.toNat_natCast] at q
 have hx:xs[j]?=some (xs[j]'(by omega)):=List.getElem?_eq_getElem (by omega)
 generalize xs[j]'(by omega)=y at hx
 obtain ⟨ds,eds,cs,d1,d2,d3⟩:=aQ h2 hx
 rw [List.getD_eq_getElem?_getD,eds] at q
 refine dy (aF.of h1) (v:= .ref y) (jI (by rw [List.getElem?_map,hx];rfl)) ?_
 exact ⟨_,.inl (aF.of d1),fun l nl=>q l _ (ak nl) nl ⟨cs,af,aj d2 (fun c d r=>a8 r nl),d3⟩⟩
include T in theorem aP:FnAt P w K mg base (iM P w) "_law_cell_at" 1 ["_law_script","_law_k"] (aO K):=by
 exists 0,T.bw,cX,c4,aO
 rename_i a k
 refine ⟨_,(ai (b7 (bo nQ (pv 1) (az (aY K rfl) (by rfl) T.cN cA (ao (pv 0) ag)) (nomark _)) (ar (aB (gy (kA K rfl) (pv 0) (pv 1) (fun _ _=>rfl)))) aU)
 (ar (aB ah))),?_⟩
 obtain ⟨ns,hS,h0,q⟩:=h
 walk_at "wps"
 refine ⟨_,.inl hS,?_⟩
 rw [List.length_map]
 split
 ·rename_i c;exact jn hS h0 c (q _)
 ·exact q _
include T in theorem dH:FnAt P w K mg base (iM P w) "_law_whole" 1 ["_law_found"] bB:=by
 exists 0,T.bR,dG,dJ,bB
 rename_i i
 refine ⟨_,(ar (aB (l7 (az (cg K rfl) (by rfl) T.aN ba (ao (pv 0) (ao (gx rfl T.jG mT) ag))) (lZ (l5 (az (cg K rfl) (by rfl) T.aN ba (ao (pv 0) (ao (gx rfl T.gj kT) ag)))))))),?_⟩
 walk_at "wps"
 exact h
include T in theorem cp:FnAt P w K mg base (iM P w) "_law_mixed" 1 ["_law_cell","_law_k"] bD:=by
 exists 0,T.bS,a9,dM,bD
 rename_i c k
 refine ⟨_,(ai (b7 (PW.pt (pw_and (bo nS (pv 0) (ax ko ah ah) (nomark _)) (pw_and1 (bo nR (ax ji (pv 0) (ax (bA K rfl) ah (ax er ah (pv 1)))) ah (nomark _))))) (ar (aB (ax aX (ax ji (pv 0) (ax (bA K rfl) ah (ax er ah (pv 1)))) ah))) aU)
 (cE (ai (aM (i:=2) a9.nd rfl (Or.inl rfl) (ax (bA K rfl) (ax aX (pv 0) ah) ah))
 (ai (dk PassesOwn.never rfl (bJ rfl T.bU (ao ah ag)) (a_ (i:=3) a9.nd rfl (Or.inl rfl)) (ar (aM (i:=2) a9.nd rfl (Or.inl rfl) (ax aX (ax (bA K rfl) (ax (bA K rfl) (ax er (pv 2) (pv 2)) (ax er ah (pv 2))) (pv 1)) ah))))
 (ar (aB (pv 2))))))),?_⟩
 obtain ⟨h0,q⟩:=h
 generalize h_u1:c_ _=u1
 walk_at "wps"
 have sh:kY 1 90:=⟨⟨by decide,by decide⟩,by decide+kernel,by decide+kernel⟩
 have tail:u1 {nx:=fun _ H'=>Q .non H',rt:=Q} [some (.int c),some (.int k),none,none] H:=by
  rw [←h_u1,c_]
  walk_at "wps"
  refine fZ (lo:=0) (n:=3) (fun i σ H'=>H'=H∧∃v v3,σ= [some (.int c),some (.int k),some (.int v),v3]∧0≤v∧v<2147483647+(if i=0 then 48271 else 0)) ⟨rfl,_,none,rfl,by omega,by rw [if_pos rfl];omega⟩ (fun i σ H' _ hp=>?_) (fun σ H' hp=>?_)
  ·
   obtain ⟨rfl,v,v3,rfl,h0,h1⟩:=hp
   walk_at "wps"
   have h2:v<3000000000:=by split at h1<;>omega
   exact ⟨.inl ⟨by omega,by omega⟩,_,_,rfl,Int.emod_nonneg _ (by decide),Int.emod_lt_of_pos _ (by decide)⟩
  ·
   obtain ⟨rfl,v,v3,rfl,h0,h1⟩:=hp
   walk_at "wps"
   exact q v h0 (by rw [if_neg (by decide)] at h1;omega)
 refine ⟨sh,?_⟩
 split
 ·
  refine ⟨by omega,?_⟩
  split
  ·exact ⟨by omega,q _ (Int.emod_nonneg _ (by decide)) (Int.emod_lt_of_pos _ (by decide))⟩
  ·exact tail
 ·exact tail
theorem gM {K:PySem.W.Frag} {H:Hp}: ∀{cs:List Addr} {ds:List Cp},Paired (fun c (d:Cp)=>fw H c d.1 d.2.1 d.2.2) cs ds→Paired (Dn K H 1) (cs.map V.ref) (ds.map fun d=>Dt.t [.int d.1,.int d.2.1,.int d.2.2])
 |_,_,.nil=> .nil
 |_,_,.cons r rr=> .cons (mN r (.cons f9 (.cons f9 (.cons f9 .nil)))) (gM rr)
noncomputable def gN (ds:List Cp):Dt:= .l (ds.map fun d=>Dt.t [.int d.1,.int d.2.1,.int d.2.2])
theorem ay.dn {K:PySem.W.Frag} {H:Hp} {p:Addr} {ds:List Cp} (h:ay H p ds):Dn K H 2 (.ref p) (gN ds):=by
 obtain ⟨cs,h1,h2,_⟩:=h
 exact f7 h1 (gM h2)
theorem iT {K:PySem.W.Frag} {H:Hp}: ∀{xs:List Addr} {dss:List (List Cp)},Paired (ay H) xs dss→Paired (Dn K H 2) (xs.map V.ref) (dss.map gN)
 |_,_,.nil=> .nil
 |_,_,.cons r rr=> .cons r.dn (iT rr)
theorem bf.dn {K:PySem.W.Frag} {H:Hp} {p:Addr} {dss:List (List Cp)} (h:bf H p dss):Dn K H 3 (.ref p) (.l (dss.map gN)):=by
 obtain ⟨xs,h1,h2,_⟩:=h
 exact f7 h1 (iT h2)
theorem ay.snoc {H:Hp} {p pn:Addr} {d:Cp} {l:List V} {ds:List Cp} (h:ay H p ds) (n:H pn=none) (hp:H p=some (.lst l)) (hl:ds.length<1000):ay (upd (upd H pn (.tup [.int d.1,.int d.2.1,.int d.2.2])) p (.lst (l++ [.ref pn]))) p (ds++ [d]):=by
 obtain ⟨cs,h1,h2,h3⟩:=h
 rw [hp] at h1
 cases h1
 have ne:pn≠p:=fun z=>by rw [z,hp] at n;cases n
 refine ⟨cs++ [pn],by rw [af];simp,bz (aj h2 fun c m u=>?_) ?_,by rw [List.length_append];simp;omega⟩
 ·
  have nc:c≠p:=fun z=>by unfold fw at u;rw [z,hp] at u;cases u
  unfold fw at u⊢
  rw [aa nc]
  exact a8 u n
 ·
  unfold fw
  rw [aa ne,af]
include T in theorem cH:FnAt P w K mg base (iM P w) "_law_deed" 2 ["_law_cell","_law_k"] bj:=by
 exists 0,T.cc,aD,eN,bj
 rename_i c k
 refine ⟨_,(ai (aM (i:=2) aD.nd rfl (Or.inl rfl) (aE (cp T) HR (by decide) rfl (ao (pv 0) (ao (pv 1) ag))))
 (cE (ai (aM (i:=3) aD.nd rfl (Or.inl rfl) (du ag))
 (ai (dk PassesOwn.never rfl (bJ rfl T.bU (ao (ax aX (pv 2) ah) ag)) (a_ (i:=4) aD.nd rfl (Or.inl rfl)) (ai (aM (i:=5) aD.nd rfl (Or.inl rfl) (aE (cp T) HR (by decide) rfl (ao (pv 2) (ao (ax (bA K rfl) (pv 4) ah) ag))))
 (ai (aM (i:=6) aD.nd rfl (Or.inl rfl) ah)
 (cE (ai (b7 (bo (c8 K rfl HR.units) (ax aX (pv 5) ah) ah (nomark _)) (ar (aM (i:=6) aD.nd rfl (Or.inl rfl) (ax aX (ax et (pv 5) ah) ah))) aU)
 (cE (ar (cF (cw K rfl (pv 3) (dt (ao (ax (bA K rfl) ah (ax aX (ax et (pv 5) ah) ah)) (ao (ax aX (ax et (pv 5) ah) ah) (ao (pv 6) ag)))))))))))))
 (ar (aB (pv 3))))))),?_⟩
 obtain ⟨hk,q⟩:=h
 generalize h_u1:c_ _=u1
 walk_at "wps"
 refine ⟨hk,fun num n0 n1=>?_⟩
 rw [←h_u1,c_]
 walk_at "wps"
 intro p np
 have sm0:=ak (H:=H) (o:= .lst []) np
 have l0:=af (H:=H) (a:=p) (o:= .lst [])
 generalize upd H p (.lst [])=H0 at*
 refine ⟨by omega,?_⟩
 refine fZ (lo:=0) (n:=(num % 4).toNat) (fun i σ H'=>aC H H'∧∃ds v5 v6 v7,ay H' p ds∧ds.length=i∧σ= [some (V.int c),some (V.int k),some (V.int num),some (V.ref p),v5,v6,v7]) ⟨sm0,[],none,none,none,⟨[],l0,.nil,by simp⟩,rfl,rfl⟩ (fun i σ H1 hi hp=>?_) (fun σ H1 hp=>?_)
 ·
  obtain ⟨sm1,ds,v5,v6,v7,hD,hl,rfl⟩:=hp
  walk_at "wps"
  refine ⟨by omega,fun pt p0 p1=>?_⟩
  refine jr fun DD eDD=>?_
  show c_ _ _ _ _
  unfold c_
  have hD':=hD
  obtain ⟨cs,d1,d2,d3⟩:=hD'
  have ld:=aq d2
  walk_at "wps"
  split
  ·
   refine ⟨bW (aF.of d1),fun pn npn=>⟨_,a8 d1 npn,Nat.lt_of_lt_of_le (show (cs.map V.ref).length<1000 by rw [List.length_map];omega) (aI (Nat.le_refl _)),?_⟩⟩
   rw [eDD]
   exact ⟨df (sm1.trans (ak npn)) np,ds++ [(1+pt / 512 % 60,pt / 30720 % 67,pt / 2 % 256)],_,_,_,hD.snoc (d:=(1+pt / 512 % 60,pt / 30720 % 67,pt / 2 % 256)) npn d1 (by omega),by rw [List.length_append,hl];rfl,rfl⟩
  ·
   refine ⟨bW (aF.of d1),fun pn npn=>⟨_,a8 d1 npn,Nat.lt_of_lt_of_le (show (cs.map V.ref).length<1000 by rw [List.length_map];omega) (aI (Nat.le_refl _)),?_⟩⟩
   rw [eDD]
   exact ⟨df (sm1.trans (ak npn)) np,ds++ [(1+pt / 512 % 60,pt / 30720 % 67,0)],_,_,_,hD.snoc (d:=(1+pt / 512 % 60,pt / 30720 % 67,0)) npn d1 (by omega),by rw [List.length_append,hl];rfl,rfl⟩
 ·
  obtain ⟨sm1,ds,v5,v6,v7,hD,hl,rfl⟩:=hp
  walk_at "wps"
  exact q p ds H1 sm1 np hD (by omega)
include T in theorem bI:FnAt P w K mg base (iM P w) "_law_alike" 2 ["_law_found","_law_due_here"] bF:=by
 exists 0,T.bT,cm,dN,bF
 rename_i p d
 refine ⟨_,(ai (b7 (PW.pt (pw_or (cS (ib (az (cg K rfl) (by rfl) T.aN ba (ao (pv 0) (ao (gx rfl T.cU c9) ag))))) (pw_or1 (bo (eo K rfl HR.units) (az (aY K rfl) (by rfl) T.cN cA (ao (pv 0) ag)) (az (aY K rfl) (by rfl) T.cN cA (ao (pv 1) ag)) (nomark _))))) (ar (aB dv)) aU)
 (ai (dk PassesOwn.never rfl (cG K rfl (pv 0)) (a_ (i:=2) cm.nd rfl (Or.inl rfl)) (ar (b7 (PW.pt (pw_or (cS (ib (az (cg K rfl) (by rfl) T.aN ba (ao (pv 2) (ao (gx rfl T.eO jE) ag))))) (pw_or (bo (eo K rfl HR.units) (az (aY K rfl) (by rfl) T.cN cA (ao (pv 2) ag)) ah (nomark _)) (pw_or1 (cS (ib (az (iI K rfl rfl) (by rfl) T.jH mU (ao (gz (N:=(["_law_part"]:List Str)) (nv:=1) (ix:=[]) rfl (fi (by kernel_rfl)) (cG K rfl (pv 2)) (fun _ _ _ _ _=>(a_ (i:=0) (show ((["_law_part"]:List Str)).Nodup by decide) rfl (Or.inl rfl))) (fun _ _ _ _ _=>cD) (fun _ _ _ _ _=>(aE (dH T) HR (by decide) rfl (ao (pv 0) ag)))) ag)))))))) (ar (aB dv)) aU)))
 (ar (aB (kl (c8 K rfl HR.units) (pv 0) (pv 1) (nomark _)))))),?_⟩
 obtain ⟨ds,hx,hy,q⟩:=h
 have hx0:=hx
 have hy0:=hy
 obtain ⟨cs,h1,p1,hl⟩:=hx
 obtain ⟨cs2,h2,p2,_⟩:=hy
 have l1:=aq p1
 have l2:=aq p2
 walk_at "wps"
 refine jo h1 ⟨true,rfl,?_⟩
 rw [if_neg (by decide)]
 refine ⟨_,.inl (aF.of h1),_,.inl (aF.of h2),?_⟩
 rw [List.length_map,List.length_map,l1,l2,if_neg (by simp)]
 refine gI (aF.of h1) (fun i σ H'=>aC H H'∧∃v,σ= [some (V.ref p),some (V.ref d),v]) ⟨aC.refl _,none,rfl⟩ (fun i σ H' _ h=>aF.of (h.1 _ _ h1)) (fun i y σ H' hy h=>?_) (fun σ H' h=>?_)
 ·
  obtain ⟨sm,v,rfl⟩:=h
  rw [List.getElem?_map] at hy
  obtain ⟨c,ec,rfl⟩:=Option.map_eq_some_iff.mp hy
  obtain ⟨m,em,hm⟩:=aQ p1 ec
  have hm':H' c=some (.tup [.int m.1,.int m.2.1,.int m.2.2]):=sm _ _ hm
  walk_at "wps"
  refine kG hm' ⟨true,rfl,?_⟩
  rw [if_neg (by decide)]
  refine ⟨_,.inr (bV.of hm'),?_⟩
  rw [if_neg (by simp)]
  refine mR (p:=fun _=>true) (f:=fun _=>V.bl true) (bV.of hm') (aI (by simp)) (fun x _ Q h=>h) (fun x hx _ Q h=>?_) ?_
  ·
   simp only [List.mem_cons,List.not_mem_nil,or_false] at hx
   rcases hx with rfl|rfl|rfl
   ·
    walk_at "wps"
    exact h
   ·
    walk_at "wps"
    exact h
   ·
    walk_at "wps"
    exact h
  refine ⟨aI (by simp),fun l nl=>⟨[true,true,true],aF.of af,?_⟩⟩
  rw [if_neg (by decide)]
  exact ⟨sm.trans (ak nl),_,rfl⟩
 ·
  obtain ⟨sm,v,rfl⟩:=h
  walk_at "wps"
  exact ⟨2,_,_,by decide,(hx0.same sm).dn,(hy0.same sm).dn,.inl ⟨rfl,q _ sm⟩⟩
include T in theorem b8:FnAt P w K mg base (iM P w) "_law_due" 1 ["_law_deeds","_law_number"] bX:=by
 exists 0,T.cy,eY,fo,bX
 rename_i x n
 refine ⟨_,(ai (b7 (bo (c8 K rfl HR.units) (pv 0) (du ag) (nomark _)) (ar (aB (du (ao (dt (ao ah (ao ah (ao ah ag)))) ag)))) aU)
 (ar (aB (gy (kA K rfl) (pv 0) (ax aX (pv 1) (az (aY K rfl) (by rfl) T.cN cA (ao (pv 0) ag))) (fun _ _=>rfl))))),?_⟩
 obtain ⟨dss,hR,q⟩:=h
 walk_at "wps"
 intro p np
 have s1:=ak (o:=HO.lst []) np
 have R1:=hR.same s1
 refine ⟨3,_,_,by decide,R1.dn,f7 af .nil,?_⟩
 obtain ⟨xs,h1,h2,h3⟩:=R1
 have ln:=aq h2
 by_cases c:dss.length=0
 ·
  rw [if_pos c] at q
  have e:dss= []:=List.length_eq_zero_iff.mp c
  refine .inl ⟨by rw [e];rfl,true,rfl,?_⟩
  rw [if_pos rfl]
  intro p1 n1 p2 n2
  exact q p2 _ (s1.trans ((ak n1).trans (ak n2))) ⟨[p1],af,.cons (a8 af n2) .nil,by simp⟩
 ·
  rw [if_neg c] at q
  refine .inr ⟨fun e=>c (by injection e with e;rw [←List.length_map (f:=gN),e];rfl),false,rfl,?_⟩
  rw [if_neg (by decide)]
  refine ⟨_,.inl (aF.of h1),?_⟩
  rw [List.length_map,ln]
  refine ⟨by omega,?_⟩
  have m0:=Int.emod_nonneg n (show ((dss.length:Nat):Int)≠0 by omega)
  have m1:=Int.emod_lt_of_pos n (show (0:Int)<((dss.length:Nat):Int) by omega)
  obtain ⟨j,ej,hj⟩: ∃j:Nat,n % ((dss.length:Nat):Int)=(j:Int)∧j<xs.length:=⟨(n % ((dss.length:Nat):Int)).toNat,by omega,by omega⟩
  obtain ⟨ds,e1,e2⟩:=aQ h2 (List.getElem?_eq_getElem hj)
  rw [ej] at q⊢
  refine ⟨_,_,.inl (aF.of h1),jI (show (xs.map V.ref)[j]?=some (.ref xs[j]) by rw [List.getElem?_map,List.getElem?_eq_getElem hj];rfl),q _ _ s1 ?_⟩
  rw [Int.toNat_natCast,List.getD_eq_getElem?_getD,e1]
  exact e2
theorem ay.keep {H H':Hp} {x:Addr} {ds:List Cp} (h:ay H x ds) (k: ∀b o,H b=some o→(∀qs,o≠ .tbl qs)→H' b=some o):ay H' x ds:=by
 obtain ⟨cs,h1,h2,h3⟩:=h
 exact ⟨cs,k _ _ h1 (fun _ z=>by cases z),aj h2 fun c d q=>k _ _ q (fun _ z=>by cases z),h3⟩
theorem fv.keep {H0 H H':Hp} {p:Addr} {dss:List (List Cp)} (h:fv H0 H p dss) (k: ∀b o,H b=some o→(∀qs,o≠ .tbl qs)→H' b=some o):fv H0 H' p dss:=by
 obtain ⟨h0,xs,h1,h2,h3⟩:=h
 exact ⟨h0,xs,k _ _ h1 (fun _ z=>by cases z),aj h2 fun c d q=>⟨q.1,q.2.keep k⟩,h3⟩
theorem di {L f:Addr} {cd:Value}:(PyProof.Rows.envOfC "rule" (ae bc) L f cd).cells= [(("row" : Str),L+1)]:=by rfl
include T in theorem gB {c t bm:Addr} {ob:Obj} (R:oU K mg base c t bm ob):FnAt P w K mg base (iM P w) "rule" 2 ["deeds"] (d7 t):=by
 refine T.f_.pw (s1:=r1) (s2:=r2) (s3:=r3) R.hc rfl d9 kU (fun vs H Q E h=>?_) fun f A outer s H vs Q E HR h=>?_
 ·unfold d7 at h;split at h<;>first|rfl|exact h.elim
 ·
  unfold d7 at h
  split at h
  ·
   rename_i d
   obtain ⟨dss,hR,hT,q⟩:=h
   refine ⟨_,_,fun σ' H'=> ∃f pr,σ'= [some (.ref d),some (.ref pr),some (.ref f)]∧(∀b o,H b=some o→b≠t→H' b=some o)∧fv H H' pr dss∧H f=none∧Tb t H'∧∃cl c',H' f=some (.ext (aW f "deed_of" iq (aJ r2) (aw r2) (ae r2) cl c'))∧H' c'=some (.ext (aZ c' iq))∧(∀y e,cl.lookup y=some e→(PyProof.Rows.envOfC "rule" (ae bc) s.heap.objs.size f (.ref c)).cells.lookup y=some e)∧∃e,cl.lookup ("row" : Str)=some e,
    PS.nox (aM (i:=1) d9.nd rfl (Or.inr rfl) (aE (ij T) HR (by decide) rfl (ao (pv 0) ag))),
    je (i:=2) rfl rfl rfl rfl rfl R.hC R.b1 R.b2 R.b3 R.b4 R.b5 R.b6 ?_ d9.nd rfl rfl,?_,?_⟩
   ·
    intro y hy hf
    have e: ∀y∈(ae r2).names,y.2 = .free→y.1=("row" : Str):=by decide+kernel
    rw [e y hy hf]
    exact ⟨s.heap.objs.size+1,by show List.lookup _ (PyProof.Rows.envOfC "rule" (ae bc) s.heap.objs.size f (.ref c)).cells=_;rw [di];rfl⟩
   ·
    walk_at "wps"
    refine ⟨dss,hR,fun pr H1 s1 hN=>?_⟩
    have eq:qualnameIn (aT (iM P w) P w K mg base ["deeds","row","deed_of"] "rule" (ae bc) f (.ref c) A outer s H E).env "deed_of" "deed_of" = iq:=by kernel_rfl
    rw [eq]
    unfold iO
    rcases hT with hT|⟨c1,hT,hc1⟩
    ·
     refine ⟨#[],s1 _ _ hT,trivial,.inl ⟨rfl,fun f' c' cl nf nc fc ft ct h1 h2=>?_⟩⟩
     rw [Array.empty_append]
     have up: ∀b o,H1 b=some o→b≠t→upd (upd (upd H1 t (.tbl #[rawInt (gL r2).line,rawInt (gL r2).col,.ref c'])) c' (.ext (aZ c' iq))) f' (.ext (aW f' "deed_of" iq (aJ r2) (aw r2) (ae r2) cl c')) b=some o:=fun b o e n=>by
      rw [aa (fun z=>by rw [z,nf] at e;cases e),aa (fun z=>by rw [z,nc] at e;cases e),aa n];exact e
     exact ⟨f',pr,rfl,fun b o e n=>up b o (s1 b o e) n,hN.keep (fun b o e n=>up b o e (fun z=>by rw [z,s1 _ _ hT] at e;cases e;exact n _ rfl)),none_of s1 nf,.inr ⟨c',by rw [aa ft.symm,aa ct.symm,af];rfl,by rw [aa fc.symm,af]⟩,cl,c',af,by rw [aa fc.symm,af],h1,h2 (("row" : Str),.free) (by decide+kernel) rfl⟩
    ·
     refine ⟨_,s1 _ _ hT,trivial,.inr ⟨c1,by kernel_rfl,fun f' cl nf h1 h2=>?_⟩⟩
     have up: ∀b o,H1 b=some o→upd H1 f' (.ext (aW f' "deed_of" iq (aJ r2) (aw r2) (ae r2) cl c1)) b=some o:=fun b o e=>by
      rw [aa (fun z=>by rw [z,nf] at e;cases e)];exact e
     exact ⟨f',pr,rfl,fun b o e n=>up b o (s1 b o e),hN.keep (fun b o e n=>up b o e),none_of s1 nf,.inr ⟨c1,up _ _ (s1 _ _ hT),up _ _ (s1 _ _ hc1)⟩,cl,c1,af,up _ _ (s1 _ _ hc1),h1,h2 (("row" : Str),.free) (by decide+kernel) rfl⟩
   ·
    rintro σ' H' s' I ⟨f',pr,rfl,fr,hN,nf,hTb,cl,c',g1,g2,h1,e,he⟩
    have ec:=h1 _ _ he
    refine iU I (i:=2) (j:=1) (y:="deed_of") (x:="row") (cell:=e) rfl rfl (.inl rfl) rfl rfl rfl ec fun nc=>?_
    have up: ∀b o,H' b=some o→upd H' e (.ext (aH e (.ref pr))) b=some o:=fun b o q=>by
     rw [aa (fun z=>by rw [z,nc] at q;cases q)];exact q
    refine q f' pr _ (fun b o e1 n=>up b o (fr b o e1 n)) (hN.keep fun b o e1 _=>up b o e1) nf ?_ ⟨e,cl,c',up _ _ g1,up _ _ g2,af,he,fun z d hz=>?_⟩
    ·
     rcases hTb with z|⟨c2,z1,z2⟩
     ·exact .inl (up _ _ z)
     ·exact .inr ⟨c2,up _ _ z1,up _ _ z2⟩
    ·
     have h2:=h1 z d hz
     rw [di] at h2 ec
     have e1:s.heap.objs.size+1=e:=by simpa using ec
     rw [List.lookup_cons] at h2
     cases hb:z == ("row" : Str) with
     |true=>
      rw [hb] at h2
      have e2:s.heap.objs.size+1=d:=by simpa using h2
      exact ⟨beq_iff_eq.mp hb,e2.symm.trans e1⟩
     |false=>
      rw [hb] at h2
      cases h2
  ·exact h.elim
theorem ay.gF {H H':Hp} {x:Addr} {ds:List Cp} (h:ay H x ds) (k: ∀b o,H b=some o→(∀φ,o≠ .ext φ)→H' b=some o):ay H' x ds:=by
 obtain ⟨cs,h1,h2,h3⟩:=h
 exact ⟨cs,k _ _ h1 (fun _ z=>by cases z),aj h2 fun c d q=>k _ _ q (fun _ z=>by cases z),h3⟩
theorem bf.gF {H H':Hp} {x:Addr} {dss:List (List Cp)} (h:bf H x dss) (k: ∀b o,H b=some o→(∀φ,o≠ .ext φ)→H' b=some o):bf H' x dss:=by
 obtain ⟨xs,h1,h2,h3⟩:=h
 exact ⟨xs,k _ _ h1 (fun _ z=>by cases z),aj h2 fun c d q=>q.gF k,h3⟩
def nr (f:Addr) (vs:List V) (H:Hp) (Q:VK):Prop:= ∃n pr dss,vs= [.int n]∧Told H f pr∧bf H pr dss∧∀p H',aC H H'→H p=none→ay H' p (if dss.length=0 then [(1,0,0)] else dss.getD (n % dss.length).toNat [])→Q (.ref p) H'
theorem mG:oX (ae r2) ("sending" : Str) ("row" : Str):=⟨rfl,rfl,rfl,by decide+kernel,rfl,rfl,fun z h=>by
 have h':List.lookup z [(("sending" : Str),NameKind.local),(("row" : Str),NameKind.free),(("deed_at" : Str),NameKind.globalImplicit)]=some .free:=h
 simp only [List.lookup_cons] at h'
 cases h1:z == ("sending" : Str)<;>rw [h1] at h'
 ·
  cases h2:z == ("row" : Str)<;>rw [h2] at h'
  ·cases h3:z == ("deed_at" : Str)<;>rw [h3] at h'<;>cases h'
  ·exact beq_iff_eq.mp h2
 ·cases h'⟩
include T in theorem eA {X:Cx} {n:Nat} (e1:X.prog=P) (e2:X.w=w) (e3:X.K=K) (e4:X.mg=mg) (e5:X.base=base) (hr:bb n X.A) (hk:2≤n):oY X nr:=by
 subst e1 e2 e3 e4 e5
 refine mS (CX:=iM X.prog X.w) (k:=1) (name:="deed_of") (qual:=iq) (params:=aJ r2) (body:=aw r2) (scope:=ae r2) mG (by decide) hr hk fun f vs H Q q=>?_
 obtain ⟨m,pr,dss,rfl,⟨cell,cl,c',g1,g2,g3,g4,g5⟩,hR,q⟩:=q
 refine ⟨.int m,cell,.ref pr,cl,c',rfl,g1,g2,g3,g4,g5,fun s u doc pm ctv=> .of_eq rfl,fun s HR=>⟨_,ar (aB (aE (fV T) HR (by decide) rfl (ao (dq (i:=1) rfl (.inr (.inr rfl))) (ao (dq (i:=0) rfl (.inl rfl)) ag)))),?_⟩⟩
 walk_at "wps"
 have oe: ∀b o,H b=some o→(∀φ,o≠ .ext φ)→bH H cell b=some o:=fun b o e n=>by
  unfold bH
  rw [if_neg (fun z=>by rw [z,g3] at e;cases e;exact n _ rfl)]
  exact e
 refine ⟨dss,hR.gF oe,fun p H' sm np hD hc=>?_⟩
 have pc:p≠cell:=fun z=>by
  obtain ⟨cs,h1,-⟩:=hD
  rw [z,hc] at h1
  cases h1
 have np':H p=none:=by
  unfold bH at np
  rwa [if_neg pc] at np
 refine q p _ (fun b o e=>?_) np' (hD.gF fun b o e _=>?_)
 ·
  by_cases hb:b=cell
  ·
   rw [hb] at e⊢
   rw [g3] at e
   rw [af]
   exact e
  ·
   rw [aa hb]
   exact sm b o (by unfold bH;rw [if_neg hb];exact e)
 ·
  rw [aa (fun z=>by rw [z,hc] at e;cases e)]
  exact e
theorem bf.keep {H H':Hp} {x:Addr} {dss:List (List Cp)} (h:bf H x dss) (k: ∀b o,H b=some o→(∀qs,o≠ .tbl qs)→H' b=some o):bf H' x dss:=by
 obtain ⟨xs,h1,h2,h3⟩:=h
 exact ⟨xs,k _ _ h1 (fun _ z=>by cases z),aj h2 fun c d q=>q.keep k,h3⟩
theorem gq {K:PySem.W.Frag} {H H':Hp} {a:Addr} {xs:List V} (h:aF K H a xs) (f:aC H H'):aF K H' a xs:=by
 rcases h with (h|⟨o,h⟩)|h
 ·exact .inl (.inl (f _ _ h))
 ·exact .inl (.inr ⟨o,f _ _ h⟩)
 ·exact .inr h
theorem mQ {ns:List Int}: ∃ms:List Int,dI (ns.map V.int) (some 3) (some 63)=ms.map V.int∧ms.length≤60:=by
 refine ⟨_,jy,?_⟩
 rw [List.length_take]
 have h1:HT.aV ns.length ns.length (some ((63:Nat):Int))=min 63 ns.length:=HT.gs _ _ 63
 have h2:HT.aV ns.length 0 (some ((3:Nat):Int))=min 3 ns.length:=HT.gs _ _ 3
 rw [show (some (63:Int))=some ((63:Nat):Int) from rfl,show (some (3:Int))=some ((3:Nat):Int) from rfl,h1,h2]
 omega
theorem kI {ms:List Int} {i:Nat} {y:V} (h:(ms.map V.int)[i]?=some y): ∃c,y = .int c:=by
 rw [List.getElem?_map] at h
 obtain ⟨c,_,e⟩:=Option.map_eq_some_iff.mp h
 exact ⟨c,e.symm⟩
theorem dX {K:PySem.W.Frag} {a:Addr} {ns:List Int} {H:Hp} {k:Int} {n:Nat} {R:List V→Hp→Prop} (hS:aF K H a (ns.map V.int)) (hk:0≤k) (hn:n≤1000) (q: ∀(xs:List Addr) dss H',aC H H'→Paired (ay H') xs dss→dss.length=n→R (xs.map V.ref) H'):
  bK (iL 0 n) (cK 0) jQ (dR bj [] E0 (ck (dR (aO K) [] E0 (ck (gX 1) (ck (tC (V.int k)) fB))) (ck (gX 0) fB))) [none,some (V.ref a)] H R:=by
 refine kR (fun i ys σ H'=>aC H H'∧∃zs:List Addr,∃dss,ys=zs.map V.ref∧Paired (ay H') zs dss∧dss.length=i∧∃v,σ= [v,some (V.ref a)]) ⟨aC.refl _,[],[],rfl,.nil,rfl,none,rfl⟩ (aI hn) (fun i ys σ H' hh=>?_) (fun i ys σ H' hi hh=>?_) (fun ys σ H' hh=>?_)
 ·
  obtain ⟨_,zs,dss,e,p,ln,_⟩:=hh
  rw [e,List.length_map,aq p,ln]
  exact Nat.le_refl _
 ·
  obtain ⟨sm,zs,dss,e,p,ln,v,eσ⟩:=hh
  subst eσ e
  walk_at "wps"
  refine ⟨ns,gq hS sm,hk,fun m=>⟨by omega,fun x ds H2 s2 nx hD _=>?_⟩⟩
  exact ⟨sm.trans s2,zs++ [x],dss++ [ds],by simp,bz (aj p fun a b q=>q.same s2) hD,by simp [ln],_,rfl⟩
 ·
  obtain ⟨sm,zs,dss,e,p,ln,v,eσ⟩:=hh
  subst e
  exact q zs dss H' sm p ln
theorem jz {K:PySem.W.Frag} {H:Hp} {p:Addr} {dss:List (List Cp)} {R:List V→Hp→Prop} (hR:bf H p dss) (q: ∀(zs:List Addr) H',aC H H'→Paired (fun z ds=>H z=none∧ay H' z ds) zs dss→R (zs.map V.ref) H'):fI K (V.ref p) H fun J H2=>bK J (cK 0) jQ (mY (dj K) (ck (gX 0) fB)) [none] H2 R:=by
 obtain ⟨xs2,x1,x2,x3⟩:=hR
 have lx2:=aq x2
 refine fj (aF.of x1) (aI (by rw [List.length_map,lx2];exact x3)) (fun i ys σ H'=>aC H H'∧∃zs:List Addr,ys=zs.map V.ref∧Paired (fun z ds=>H z=none∧ay H' z ds) zs (dss.take i)∧∃v,σ= [v]) ⟨aC.refl _,[],rfl,.nil,none,rfl⟩ (fun i ys σ H' hh=>?_) (fun i ys σ H' hh=>aF.of (hh.1 _ _ x1)) (fun i y ys σ H' hy hh=>?_) (fun ys σ H' hh=>?_)
 ·
  obtain ⟨_,zs,e,p,_⟩:=hh
  rw [e,List.length_map,aq p]
  exact List.length_take_le _ _
 ·
  obtain ⟨sm,zs,e,p,v,eσ⟩:=hh
  subst eσ e
  rw [List.getElem?_map] at hy
  obtain ⟨y,ey,rfl⟩:=Option.map_eq_some_iff.mp hy
  obtain ⟨ds,eds,hD⟩:=aQ x2 ey
  obtain ⟨cs,d1,d2,d3⟩:=hD.same sm
  walk_at "wps"
  refine ⟨_,.inl (aF.of d1),fun l nl=>⟨sm.trans (ak nl),zs++ [l],by simp,?_⟩⟩
  rw [List.take_add_one,eds]
  exact ⟨bz (R:=fun z ds=>H z=none∧ay (upd H' l (.lst (cs.map V.ref))) z ds) (y:=ds) (aj p fun a b q=>⟨q.1,q.2.same (ak nl)⟩) ⟨none_of sm nl,cs,af,aj d2 (fun c d q=>a8 q nl),d3⟩,_,rfl⟩
 ·
  obtain ⟨sm,zs,e,p,v0,eσ⟩:=hh
  subst eσ e
  rw [List.length_map,lx2,List.take_length] at p
  exact q zs H' sm p
theorem Told.keep {H H':Hp} {f pr:Addr} (h:Told H f pr) (k: ∀b φ,H b=some (.ext φ)→H' b=some (.ext φ)):Told H' f pr:=by
 obtain ⟨cell,cl,c',h1,h2,h3,h4,h5⟩:=h
 exact ⟨cell,cl,c',k _ _ h1,k _ _ h2,k _ _ h3,h4,h5⟩
theorem fv.to {H0 H M:Hp} {p:Addr} {dss:List (List Cp)} (h:fv H0 H p dss) (k1: ∀b vs,H b=some (.lst vs)→H0 b=none→M b=some (.lst vs)) (k2: ∀b vs,H b=some (.tup vs)→M b=some (.tup vs)):bf M p dss:=by
 obtain ⟨h0,xs,h1,h2,h3⟩:=h
 refine ⟨xs,k1 _ _ h1 h0,aj h2 fun x ds q=>?_,h3⟩
 obtain ⟨n,cs,d1,d2,d3⟩:=q
 exact ⟨cs,k1 _ _ d1 n,aj d2 fun c d r=>k2 _ _ r,d3⟩
theorem bq {H:Hp} {f pr:Addr} (h:Told H f pr):jL H f:=by
 obtain ⟨cell,cl,c',h1,_⟩:=h
 exact ⟨_,_,_,_,_,_,_,h1⟩
noncomputable def mask (H:Hp) (l:Addr) (zs:List Addr):Hp:=open Classical in fun b=>if b=l∨b∈zs then none else H b
theorem gD {H:Hp} {l b:Addr} {zs:List Addr} (h:b=l∨b∈zs):mask H l zs b=none:=by unfold mask;rw [if_pos h]
theorem b9 {H:Hp} {l b:Addr} {zs:List Addr} (h: ¬(b=l∨b∈zs)):mask H l zs b=H b:=by unfold mask;rw [if_neg h]
theorem ip {H:Hp} {l:Addr} {zs:List Addr}:aC (mask H l zs) H:=fun b o e=>by
 by_cases h:b=l∨b∈zs
 ·rw [gD h] at e;cases e
 ·rwa [b9 h] at e
theorem dg {M H:Hp} {p:Addr} {o:HO} (s:aC M H) (n:M p=none):aC M (upd H p o):=fun b o' e=>by
 rw [aa (fun z=>by rw [z,n] at e;cases e)]
 exact s b o' e
include T in theorem me {c t bm:Addr} {ob:Obj} (R:oU K mg base c t bm ob):FnAt P w K mg base oo "law" 3 ["_law_script"] (dc t K):=by
 refine T.gS.fn br jF (fun vs H Q E h=>?_) fun f cdv A outer s H vs Q E HR h=>?_
 ·unfold dc at h;split at h<;>first|rfl|exact h.elim
 ·
  unfold dc at h
  split at h
  ·
   rename_i a
   obtain ⟨ns,hS,hl,hO,q⟩:=h
   refine ⟨_,(ai (aM (i:=1) br.nd rfl (Or.inl rfl) (ax aX (aE (aP T) HR (by decide) rfl (ao (pv 0) (ao ah ag))) ah))
 (ai (ek (i:=2) (N:=(["_law_k","_law_script"]:List Str)) (nv:=1) (ix:=[0]) rfl br.nd rfl rfl (fi (by kernel_rfl)) (bJ rfl T.bU (ao (pv 1) ag)) (fun _ _ _ _ _=>(a_ (i:=0) (show ((["_law_k","_law_script"]:List Str)).Nodup by decide) rfl (Or.inl rfl))) (fun _ _ _ _ _=>cD) (fun _ _ _ _ _=>(aE (cH T) HR (by decide) rfl (ao (aE (aP T) HR (by decide) rfl (ao (pv 1) (ao ah ag))) (ao (pv 0) ag)))))
 (ai (ek (i:=3) (N:=(["_law_k","_law_script"]:List Str)) (nv:=1) (ix:=[0]) rfl br.nd rfl rfl (fi (by kernel_rfl)) (bJ rfl T.bU (ao (ax aX (aE (aP T) HR (by decide) rfl (ao (pv 0) (ao ah ag))) ah) ag)) (fun _ _ _ _ _=>(a_ (i:=0) (show ((["_law_k","_law_script"]:List Str)).Nodup by decide) rfl (Or.inl rfl))) (fun _ _ _ _ _=>cD) (fun _ _ _ _ _=>(aE (cH T) HR (by decide) rfl (ao (aE (aP T) HR (by decide) rfl (ao (pv 1) (ao ah ag))) (ao (pv 0) ag)))))
 (ai (ek (i:=4) (N:=(["_law_deed_here"]:List Str)) (nv:=1) (ix:=[]) rfl br.nd rfl rfl (fi (by kernel_rfl)) (cG K rfl (pv 2)) (fun _ _ _ _ _=>(a_ (i:=0) (show ((["_law_deed_here"]:List Str)).Nodup by decide) rfl (Or.inl rfl))) (fun _ _ _ _ _=>cD) (fun _ _ _ _ _=>(cv (cz K rfl) (by rfl) T.cU c9 (ao (pv 0) ag))))
 (ai (aM (i:=5) br.nd rfl (Or.inl rfl) (aE (gB T R) HR (by decide) rfl (ao (pv 4) ag)))
 (ai (aM (i:=6) br.nd rfl (Or.inl rfl) (aE (gB T R) HR (by decide) rfl (ao (pv 3) ag)))
 (ai (b7 (bo (eo K rfl HR.units) (pv 4) (pv 2) (nomark _)) (ar (aB dv)) aU)
 (ai (dk PassesOwn.never rfl (bJ rfl T.bU (ao (pv 1) ag)) (a_ (i:=7) br.nd rfl (Or.inl rfl)) (ar (cF (cw K rfl (gy (kA K rfl) (pv 4) (pv 7) (fun _ _=>rfl)) (dt (ao ah (ao ah (ao ah ag))))))))
 (ai (cF (l6 PySem.F.plainAttrs_list PySem.F.slot_list_clear PySem.F.type_list_clear jj (pv 4)))
 (ai (dk PassesOwn.never rfl (cG K rfl (ax (bA K rfl) (du (ao ah (ao ah (ao (pv 1) ag)))) (jg (oE K rfl) (pv 0) (gw ah) (gw ah)))) (a_ (i:=8) br.nd rfl (Or.inl rfl)) (ai (aM (i:=9) br.nd rfl (Or.inl rfl) (ax aX (pv 8) (ax kq ah ah)))
 (ai (aM (i:=10) br.nd rfl (Or.inl rfl) (en (i:=5) (eA T rfl rfl rfl rfl rfl HR (by decide)) rfl (.inl rfl) (ao (pv 9) ag)))
 (ai (b7 (cS (ib (aE (bI T) HR (by decide) rfl (ao (pv 10) (ao (aE (b8 T) HR (by decide) rfl (ao (pv 2) (ao (pv 9) ag))) ag))))) (ar (aB dv)) aU)
 (ai (cF (cw K rfl (pv 10) (dt (ao ah (ao ah (ao ah ag))))))
 (ai (b7 (cS (ib (aE (bI T) HR (by decide) rfl (ao (en (i:=6) (eA T rfl rfl rfl rfl rfl HR (by decide)) rfl (.inl rfl) (ao (pv 9) ag)) (ao (aE (b8 T) HR (by decide) rfl (ao (pv 3) (ao (pv 9) ag))) ag))))) (ar (aB dv)) aU)
 (ar (b7 (cS (ib (aE (bI T) HR (by decide) rfl (ao (en (i:=5) (eA T rfl rfl rfl rfl rfl HR (by decide)) rfl (.inl rfl) (ao (pv 9) ag)) (ao (aE (b8 T) HR (by decide) rfl (ao (pv 2) (ao (pv 9) ag))) ag))))) (ar (aB dv)) aU))))))))
 (ar (aB dv)))))))))))),?_⟩
   walk_at "wps"
   refine ⟨ns,hS,fun n=>⟨by omega,dX hS (by decide) (by omega) fun xs dss H1 s1 p1 ln=>⟨aI (by rw [List.length_map,aq p1];omega),fun l nl=>?_⟩⟩⟩
   have sA:=s1.trans (ak (o:= .lst (xs.map V.ref)) nl)
   have RA:bf (upd H1 l (.lst (xs.map V.ref))) l dss:=⟨xs,af,aj p1 fun a b q=>q.same (ak nl),by omega⟩
   generalize upd H1 l (.lst (xs.map V.ref))=HA at*
   refine ⟨ns,gq hS sA,fun n2=>⟨by omega,dX (gq hS sA) (by decide) (by omega) fun xs2 oss H2 s2 p2 ln2=>⟨aI (by rw [List.length_map,aq p2];omega),fun l1 nl1=>?_⟩⟩⟩
   have sB:=s2.trans (ak (o:= .lst (xs2.map V.ref)) nl1)
   have RB:bf (upd H2 l1 (.lst (xs2.map V.ref))) l1 oss:=⟨xs2,af,aj p2 fun a b q=>q.same (ak nl1),by omega⟩
   replace RA:=RA.same sB
   replace sA:=sA.trans sB
   generalize upd H2 l1 (.lst (xs2.map V.ref))=HB at*
   refine jz RA fun zs H3 s3 p3=>⟨aI (by rw [List.length_map,aq p3];omega),fun l2 nl2=>?_⟩
   have nB:HB l2=none:=none_of s3 nl2
   have l2n:l2 ∉ zs:=fun hz=>by
    obtain ⟨i,hi⟩:=List.mem_iff_getElem?.mp hz
    obtain ⟨ds,e1,e2,cs,d1,d2,d3⟩:=aQ p3 hi
    rw [nl2] at d1
    cases d1
   have sC:=s3.trans (ak (o:= .lst (zs.map V.ref)) nl2)
   have PC:Paired (fun z ds=>HB z=none∧ay (upd H3 l2 (.lst (zs.map V.ref))) z ds) zs dss:=aj p3 fun a b q=>⟨q.1,q.2.same (ak nl2)⟩
   have eC:upd H3 l2 (.lst (zs.map V.ref)) l2=some (.lst (zs.map V.ref)):=af
   generalize upd H3 l2 (.lst (zs.map V.ref))=HC at*
   have tCn:HC t=some (.tbl #[]):=sC _ _ (sA _ _ hO.2)
   have RC:bf HC l2 dss:=⟨zs,eC,aj PC fun a b q=>q.2,by omega⟩
   refine ⟨dss,RC,.inl tCn,fun f1 pr1 HD fr1 hN1 nf1 tb1 told1=>?_⟩
   have kD: ∀b o,HC b=some o→(∀qs,o≠ .tbl qs)→HD b=some o:=fun b o e n=>fr1 b o e (fun z=>by rw [z,tCn] at e;cases e;exact n _ rfl)
   refine ⟨oss,(RB.same sC).keep kD,tb1,fun f2 pr2 HE fr2 hN2 nf2 tb2 told2=>?_⟩
   have nt: ∀o,HD t=some o→∃qs,o = .tbl qs:=fun o e=>by
    rcases tb1 with z|⟨c',z,-⟩<;>rw [z] at e<;>cases e<;>exact ⟨_,rfl⟩
   have kE: ∀b o,HD b=some o→(∀qs,o≠ .tbl qs)→HE b=some o:=fun b o e n=>fr2 b o e (fun z=>by obtain ⟨qs,h⟩:=nt o (z▸e);exact n _ h)
   have kCE: ∀b o,HC b=some o→(∀qs,o≠ .tbl qs)→HE b=some o:=fun b o e n=>kE b o (kD b o e n) n
   refine ⟨3,_,_,by decide,(RC.keep kCE).dn,((RA.same sC).keep kCE).dn,.inl ⟨rfl,?_⟩⟩
   refine ⟨false,rfl,?_⟩
   rw [if_neg (by decide)]
   refine ⟨by omega,?_⟩
   have zC: ∀z∈zs,HB z=none∧∃vs,HC z=some (.lst vs)∧vs.length≤1000:=fun z hz=>by
    obtain ⟨i,hi⟩:=List.mem_iff_getElem?.mp hz
    obtain ⟨ds,e1,e2,cs,d1,d2,d3⟩:=aQ PC hi
    exact ⟨e2,_,d1,by rw [List.length_map,aq d2];exact d3⟩
   have bC: ∀b,b=l2∨b∈zs→HB b=none∧∃vs,HC b=some (.lst vs)∧vs.length≤1000:=fun b hb=>by
    rcases hb with rfl|hb
    ·exact ⟨nB,_,eC,by rw [List.length_map,aq PC];omega⟩
    ·exact zC b hb
   have bE: ∀b,b=l2∨b∈zs→∃vs,HE b=some (.lst vs)∧vs.length≤1000:=fun b hb=>by
    obtain ⟨_,vs,e,h⟩:=bC b hb
    exact ⟨vs,kCE _ _ e (fun _ z=>by cases z),h⟩
   have kL: ∀b o,HE b=some o→(∀vs,o≠ .lst vs)→mask HE l2 zs b=some o:=fun b o e n=>by
    rw [b9 (fun hb=>by obtain ⟨vs,h,_⟩:=bE b hb;rw [h] at e;cases e;exact n _ rfl)]
    exact e
   have kB: ∀b o,HB b=some o→(∀qs,o≠ .tbl qs)→mask HE l2 zs b=some o:=fun b o e n=>by
    rw [b9 (fun hb=>by rw [(bC b hb).1] at e;cases e)]
    exact kCE b o (sC b o e) n
   have M1:bf (mask HE l2 zs) l dss:=RA.keep kB
   have M2:bf (mask HE l2 zs) l1 oss:=RB.keep kB
   have M3:Told (mask HE l2 zs) f1 pr1:=told1.keep fun b φ e=>kL _ _ (kE _ _ e (fun _ z=>by cases z)) (fun _ z=>by cases z)
   have M4:Told (mask HE l2 zs) f2 pr2:=told2.keep fun b φ e=>kL _ _ e (fun _ z=>by cases z)
   have M5:bf (mask HE l2 zs) pr1 dss:=hN1.to (fun b vs e n=>by
    rw [b9 (fun hb=>by obtain ⟨_,vs,h,_⟩:=bC b hb;rw [h] at n;cases n)]
    exact kE _ _ e (fun _ z=>by cases z)) fun b vs e=>kL _ _ (kE _ _ e (fun _ z=>by cases z)) (fun _ z=>by cases z)
   have M6:bf (mask HE l2 zs) pr2 oss:=hN2.to (fun b vs e n=>by
    rw [b9 (fun hb=>by obtain ⟨_,vs,h,_⟩:=bC b hb;rw [kD _ _ h (fun _ z=>by cases z)] at n;cases n)]
    exact e) fun b vs e=>kL _ _ e (fun _ z=>by cases z)
   have M7:aC (mask HE l2 zs) HE:=ip
   have M8: ∀b,b=l2∨b∈zs→mask HE l2 zs b=none:=fun b=>gD
   have M9:aF K (mask HE l2 zs) a (ns.map V.int):=by
    rcases hS with (h|⟨o,h⟩)|h
    ·exact .inl (.inl (kB _ _ (sA _ _ h) (fun _ z=>by cases z)))
    ·exact .inl (.inr ⟨o,kB _ _ (sA _ _ h) (fun _ z=>by cases z)⟩)
    ·exact .inr h
   have lz:=aq PC
   have eE:HE l2=some (.lst (zs.map V.ref)):=kCE _ _ eC (fun _ z=>by cases z)
   generalize mask HE l2 zs=M at M1 M2 M3 M4 M5 M6 M7 M8 M9
   clear kL kB
   refine fZ (fun i σ H'=>aC M H'∧H' l2=some (.lst (zs.map V.ref))∧(∀z∈zs,∃vs,H' z=some (.lst vs)∧vs.length≤1000+i)∧∃v7 v8 v9 v10,σ= [some (.ref a),some (.int (n % 61)),some (.ref l),some (.ref l1),some (.ref l2),some (.ref f1),some (.ref f2),v7,v8,v9,v10]) ⟨M7,eE,fun z hz=>bE z (.inr hz),_,_,_,_,rfl⟩ (fun i σ H' hi hp=>?_) (fun σ H' hp=>?_)
   ·
    obtain ⟨sm,el,hz,v7,v8,v9,v10,rfl⟩:=hp
    walk_at "wps"
    have hj:i<zs.length:=by omega
    have ez:zs[i]?=some zs[i]:=List.getElem?_eq_getElem hj
    have mz:zs[i]∈zs:=List.getElem_mem hj
    generalize zs[i]=z at ez mz
    obtain ⟨vs,e1,e2⟩:=hz z mz
    rw [Int.zero_add]
    refine dy (aF.of el) (v:= .ref z) (jI (by rw [List.getElem?_map,ez];rfl)) ⟨bW (aF.of e1),fun p np=>?_⟩
    have nz: ∀b o,H' b=some o→upd H' p (.tup [V.int 1,V.int 1,V.int 1]) b=some o:=ak np
    have zl:z≠l2:=fun z'=>l2n (z'▸mz)
    refine ⟨vs,nz _ _ e1,Nat.lt_of_lt_of_le (show vs.length<2000 by omega) (by rw [sizeLine_eq];omega),dg (sm.trans nz) (M8 z (.inr mz)),?_,fun y hy=>?_,_,_,_,_,rfl⟩
    ·
     rw [aa zl.symm]
     exact nz _ _ el
    ·
     by_cases e:y=z
     ·
      rw [e,af]
      exact ⟨_,rfl,by rw [List.length_append];simp only [List.length_singleton];omega⟩
     ·
      rw [aa e]
      obtain ⟨us,g1,g2⟩:=hz y hy
      exact ⟨us,nz _ _ g1,by omega⟩
   ·
    obtain ⟨sm,el,hz,v7,v8,v9,v10,rfl⟩:=hp
    walk_at "wps"
    refine ⟨bW (aF.of el),l2,_,rfl,rfl,el,fun p0 np0=>?_⟩
    have t1:aC M (upd H' l2 (.lst [])):=dg sm (M8 l2 (.inl rfl))
    generalize upd H' l2 (.lst [])=H1 at t1 np0⊢
    have e0:=af (H:=H1) (a:=p0) (o:= .lst [V.int 0,V.int 1,V.int (n % 61)])
    replace t1:=t1.trans (ak (o:= .lst [V.int 0,V.int 1,V.int (n % 61)]) np0)
    generalize upd H1 p0 (.lst [V.int 0,V.int 1,V.int (n % 61)])=H2 at t1 e0⊢
    refine .inl ⟨_,gq M9 t1,fun p1 np1=>?_⟩
    obtain ⟨ms,em,lm⟩:=mQ (ns:=ns)
    rw [em]
    have e1:=af (H:=H2) (a:=p1) (o:= .lst (ms.map V.int))
    replace e0:=a8 (o:= .lst (ms.map V.int)) e0 np1
    replace t1:=t1.trans (ak (o:= .lst (ms.map V.int)) np1)
    generalize upd H2 p1 (.lst (ms.map V.int))=H3 at t1 e0 e1⊢
    refine .inl ⟨p0,p1,_,_,rfl,rfl,e0,e1,aI (by simp;omega),fun p2 np2=>?_⟩
    have ec: [V.int 0,V.int 1,V.int (n % 61)]++ms.map V.int=(0::1::n % 61::ms).map V.int:=rfl
    rw [ec]
    generalize 0::1::n % 61::ms=cs
    have nM:M p2=none:=none_of t1 np2
    have sM:=ak (H:=M) (o:= .lst (cs.map V.int)) nM
    have eM:=af (H:=M) (a:=p2) (o:= .lst (cs.map V.int))
    have t2:aC (upd M p2 (.lst (cs.map V.int))) (upd H3 p2 (.lst (cs.map V.int))):=fun b o e=>by
     by_cases hb:b=p2
     ·
      rw [hb,af] at e
      rw [hb,af]
      exact e
     ·
      rw [aa hb] at e⊢
      exact t1 b o e
    generalize upd M p2 (.lst (cs.map V.int))=N at sM eM t2
    generalize upd H3 p2 (.lst (cs.map V.int))=H4 at t2⊢
    replace M1:=M1.same sM
    replace M2:=M2.same sM
    replace M3:=M3.keep (fun b φ e=>sM _ _ e)
    replace M4:=M4.keep (fun b φ e=>sM _ _ e)
    replace M5:=M5.same sM
    replace M6:=M6.same sM
    refine gI (aF.of (t2 _ _ eM)) (fun i σ H'=>aC N H'∧∃v7 v8 v9 v10,σ= [some (.ref a),some (.int (n % 61)),some (.ref l),some (.ref l1),some (.ref l2),some (.ref f1),some (.ref f2),v7,v8,v9,v10]) ⟨t2,_,_,_,_,rfl⟩ (fun i σ H' _ hp=>aF.of (hp.1 _ _ eM)) (fun i x σ H5 hx hp=>?_) (fun σ H5 hp=>?_)
    ·
     obtain ⟨t3,v7,v8,v9,v10,rfl⟩:=hp
     obtain ⟨c,rfl⟩:=kI hx
     walk_at "wps"
     generalize c % 10000000000000000000000000000000000000000=m
     have F1: ∀{H:Hp},aC N H→Told H f1 pr1:=fun s=>M3.keep (fun b φ e=>s _ _ e)
     have F2: ∀{H:Hp},aC N H→Told H f2 pr2:=fun s=>M4.keep (fun b φ e=>s _ _ e)
     refine ⟨f1,rfl,bq (F1 t3),bq (F1 t3),m,pr1,dss,rfl,F1 t3,M5.same t3,fun p H6 s6 np hD=>?_⟩
     have t6:=t3.trans s6
     refine ⟨dss,M1.same t6,fun d H7 s7 hd=>⟨_,hD.same s7,hd,fun H8 s8=>?_⟩⟩
     have t8:=(t6.trans s7).trans s8
     obtain ⟨cs',g1,g2,g3⟩:=(hD.same s7).same s8
     refine ⟨bW (aF.of g1),fun pn npn=>⟨_,a8 g1 npn,Nat.lt_of_le_of_lt (show (cs'.map V.ref).length≤1000 by rw [List.length_map,aq g2];exact g3) (by rw [sizeLine_eq];omega),?_⟩⟩
     have t9:=dg (o:= .lst (cs'.map V.ref++ [.ref pn])) (t8.trans (ak (o:= .tup [V.int 2,V.int 2,V.int 2]) npn)) (none_of t3 np)
     generalize upd (upd H8 pn (.tup [V.int 2,V.int 2,V.int 2])) p (.lst (cs'.map V.ref++ [.ref pn]))=H9 at t9⊢
     refine ⟨f2,rfl,bq (F2 t9),bq (F2 t9),m,pr2,oss,rfl,F2 t9,M6.same t9,fun p' H10 s10 np' hD'=>⟨oss,M2.same (t9.trans s10),fun d' H11 s11 hd'=>⟨_,hD'.same s11,hd',fun H12 s12=>?_⟩⟩⟩
     have t12:=((t9.trans s10).trans s11).trans s12
     exact ⟨f1,rfl,bq (F1 t12),bq (F1 t12),m,pr1,dss,rfl,F1 t12,M5.same t12,fun p' H13 s13 np' hD'=>⟨dss,M1.same (t12.trans s13),fun d' H14 s14 hd'=>⟨_,hD'.same s14,hd',fun H15 s15=>⟨((t12.trans s13).trans s14).trans s15,_,_,_,_,rfl⟩⟩⟩⟩
    ·
     obtain ⟨t3,v7,v8,v9,v10,rfl⟩:=hp
     walk_at "wps"
     exact q _
  ·exact h.elim
end
theorem fin {P:Program} {w:World} {K:PySem.W.Frag} {h:Heap} {mg:Str→Option Value} {fa:Addr} (KX:K.In h) (G:h.Ns mainGlobals mg) (hmg:mg "law" = some (.ref fa)) (hc: ∀f fd,mg "rule" = some (.ref f)→lr K "rule" "rule" bc f fd→fd.code = .ref 32) (hC: ∀h,K.In h→PySem.W.CodeHd h 32 28) (T:Txt K mg):
  ∃fd:FuncData,(∀(s:Shared) (u:Value),BindsTo s fd ⟨[u],[]⟩ [("_law_script",u)])∧∀(base:Heap) (bm:Addr) (ob:Obj),K.In base→base.Ns mainGlobals mg→mg "__builtins__" = some (.ref bm)→bm≠builtinsNs→base.get? bm=some ob→ob.cls = .type "module" →ob.dict=some builtinsNs→ob.data = .plain→eR P w K mg base oo 3 fa fd ["_law_script"] (dc 28 K):=
 jk hmg T.gS jF fun base bm ob b1 b2 b3 b4 b5 b6=>me T (oU.mk hc hC b1 b2 b3 b4 b5 b6)
end K21
open PySem PySem.W PyProof.Rows
set_option maxRecDepth 100000 in
set_option maxHeartbeats 0 in
theorem PySem.Challenge.cw_slowroad_k21_rule_holds : PySem.Challenge.rw_slowroad_k21_rule.Holds := by
 w_on;o_law;k_head;(case hw=>w_witness2)
 k_fill
 refine' L2.iu (l:=PySem.Challenge.rw_slowroad_k21_rule) (k:=3) (x:="_law_script") (t:=28) rfl rfl ⟨rfl,by decide,by decide⟩ (fun w h Y=>PySem.W.km_in_of Y) (List.mem_of_getElem? (i:=2) rfl) ?kt ?hT ?F
 case kt=>intro w;kernel_rfl
 case hT=>
  intro w mg h KX G
  refine' L2.lB KX G ?a ?l ?e ?c;(case a=>k_is);(case l=>k_is);(case e=>(intro fd e;cases e;rfl));(case c=>(refine' L2.dZ ?m ?n;(case m=>k_is);(case n=>exact ⟨_,_,_,_,_,_,_,_,rfl,rfl,rfl,rfl,rfl,rfl,rfl,rfl,by decide⟩)))
 case F=>
  intro w mg fa h KX G hmg
  refine' K21.fin KX G hmg ?hq ?hC ?TT
  case hq=>(refine' L2.kQ KX G ?a ?l ?e;(case a=>k_is);(case l=>k_is);(case e=>(intro fd e;cases e;rfl)))
  case hC=>(refine' L2.dZ ?m ?n;(case m=>k_is);(case n=>exact ⟨_,_,_,_,_,_,_,_,rfl,rfl,rfl,rfl,rfl,rfl,rfl,rfl,by decide⟩))
  case TT=>
   refine K21.Txt.mk ?dA ?cT ?f_ ?bR ?bw ?bS ?cc ?bT ?cy ?gS ?jH ?gj ?jG ?aN ?cN ?cU ?bU ?eO
   case dA|cT|f_|bR|bw|bS|cc|bT|cy|gS=>refine' L2.jw KX G ?a ?l ?c ?k;(case a=>k_is);(case l=>k_is);(case c=>k_is);(case k=>k_is)
   case jH|gj|jG|aN|cN|cU|bU|eO=>refine' PySem.W.mg_none_of KX G ?a;(case a=>k_is)
#print axioms PySem.Challenge.cw_slowroad_k21_rule_holds
