import PyProof.Rows.All
import Wide.All
import OpenK.AllK
import Wide.FinOn
import PyProof.EqAt
import PyProof.EqKinds
import PyProof.TupleCall
import PyProof.NeKinds
import PyProof.Rows.BitMore
import PyProof.FitsBits
import PyProof.Rows.TupAssign
import PyProof.ListRange
import PyProof.Rows.ZipGen
import PyProof.StationsW
import PyProof.ExcInit
import PyProof.ExcClass2
import PyProof.RulesTry
import PyProof.ExcBaseAll.ValueError
import PyProof.InstStoreFacts
import PyProof.RulesAs
import PyProof.RulesDel
import PyProof.ExcArgs
import KE.KUnpack
import PyProof.Draws
import PyProof.EnumMake
import PyProof.StrReplace2
import Lean
import PySem.Challenge.RW_slowroad_k19_bits_as_texts
set_option maxRecDepth 100000
set_option maxHeartbeats 4000000
set_option Elab.async false
set_option linter.all false
set_option compiler.extract_closed false
namespace L2
open PySem PySem.Spec PyProof.Rows
noncomputable abbrev Key:=Sum Int Str
noncomputable def ny:Key→Value→Bool
 | .inl k,v=>Value.isInt k v
 | .inr x,v=>Value.isStrOf x v
noncomputable def rh (w:World):Key→Int
 | .inl k=>hashInt k
 | .inr x=>hashStr w x
theorem a9: ∀{k:Key} {v:Value},ny k v=true→(∃i t,k=Sum.inl i∧v=Value.int i t)∨(∃x t,k=Sum.inr x∧v=Value.str x t)
 | .inl i,v,h=>by
  obtain ⟨t,e⟩:=Value.isInt_shape (k:=i) (v:=v) h
  exact .inl ⟨i,t,rfl,e⟩
 | .inr x,v,h=>by
  obtain ⟨t,e⟩:=Value.isStrOf_shape (x:=x) (v:=v) h
  exact .inr ⟨x,t,rfl,e⟩
theorem o9 (a b:Int):decide ((Sum.inl a:Key)=Sum.inl b)=(a == b):=by
 by_cases e:a=b
 ·subst e;simp
 ·
  have h: ¬(Sum.inl a:Key)=Sum.inl b:=fun q=>e (Sum.inl.inj q)
  rw [decide_eq_false h]
  exact (beq_eq_false_iff_ne.mpr e).symm
theorem o6 (a b:Str):decide ((Sum.inr a:Key)=Sum.inr b)=decide (a=b):=by
 by_cases e:a=b
 ·subst e;simp
 ·
  have h: ¬(Sum.inr a:Key)=Sum.inr b:=fun q=>e (Sum.inr.inj q)
  rw [decide_eq_false h,decide_eq_false e]
theorem o8 (a:Int) (b:Str):decide ((Sum.inl a:Key)=Sum.inr b)=false:=decide_eq_false (fun q=>nomatch q)
theorem o7 (a:Str) (b:Int):decide ((Sum.inr a:Key)=Sum.inl b)=false:=decide_eq_false (fun q=>nomatch q)
noncomputable def iI (prog:Program) (w:World):PySem.KeyKind prog w Key where
 is:=ny
 hash:=rh w
 inj:=fun v a b ha hb=>by
  rcases a9 ha with ⟨i,t,rfl,rfl⟩|⟨x,t,rfl,rfl⟩
  ·
   rcases a9 hb with ⟨j,u,rfl,e⟩|⟨y,u,rfl,e⟩
   ·injection e with e1 _;rw [e1]
   ·exact nomatch e
  ·
   rcases a9 hb with ⟨j,u,rfl,e⟩|⟨y,u,rfl,e⟩
   ·exact nomatch e
   ·injection e with e1 _;rw [e1]
 byValue:=fun k v h=>by
  rcases a9 h with ⟨i,t,rfl,rfl⟩|⟨x,t,rfl,rfl⟩<;>rfl
 pyHash:=fun hv h=>by
  rcases a9 hv with ⟨i,t,rfl,rfl⟩|⟨x,t,rfl,rfl⟩
  ·exact wpAny_pyHash_int h
  ·exact wpAny_pyHash_str h
 eqBool:=fun hu hv h=>by
  rcases a9 hu with ⟨i,t,rfl,rfl⟩|⟨x,t,rfl,rfl⟩
  ·
   rcases a9 hv with ⟨j,u,rfl,rfl⟩|⟨y,u,rfl,rfl⟩
   ·rw [o9] at h;exact wpAny_eqBool_int h
   ·rw [o8] at h;exact SeqAt.EqAt.int_str i t y u _ _ _ _ h
  ·
   rcases a9 hv with ⟨j,u,rfl,rfl⟩|⟨y,u,rfl,rfl⟩
   ·rw [o7] at h;exact SeqAt.EqAt.str_int x t j u _ _ _ _ h
   ·rw [o6] at h;exact wpAny_eqBool_str h
 «strs» :=fun k x t v h=>by
  rcases a9 h with ⟨i,u,rfl,e⟩|⟨y,u,rfl,e⟩
  ·exact nomatch e
  ·
   injection e with e1 _
   subst e1
   cases v<;>rfl
inductive V where
 |non|bl (b:Bool)|int (i:Int)|str (x:Str)|byt (b:Array UInt8)|flt (b:UInt64)|ref (a:Addr)|ty (n:String)|tok (x:Str)
 deriving DecidableEq
def RelV:V→Value→Prop
 | .non,u=>u=Value.none
 | .bl b,u=>u=Value.bool b
 | .int i,u=> ∃t,u=Value.int i t
 | .str x,u=> ∃t,u=Value.str x t
 | .byt b,u=> ∃t,u=Value.bytes b t
 | .flt b,u=> ∃t,u=Value.float b t
 | .ref a,u=>u=Value.ref a
 | .ty n,u=>u=Value.type n
 | .tok x,u=> ∃t,t≠0∧u=Value.str x t
abbrev Vals:List V→List Value→Prop:=Paired RelV
theorem Vals.length {xs:List V} {us:List Value} (r:Vals xs us):xs.length=us.length:=Paired.length r
theorem Vals.get: ∀{xs:List V} {us:List Value} {i:Nat} {x:V},Vals xs us→xs[i]?=some x→∃u,us[i]?=some u∧RelV x u
 |_,_,_,_,.nil,e=>by simp at e
 |_,_,0,_,.cons r _,e=>by simp at e;subst e;exact ⟨_,rfl,r⟩
 |_,_,i+1,x,.cons _ t,e=>by
  obtain ⟨u,h1,h2⟩:=Vals.get (i:=i) (x:=x) t (by simpa using e)
  exact ⟨u,by simpa using h1,h2⟩
theorem Vals.append: ∀{xs ys:List V} {us ws:List Value},Vals xs us→Vals ys ws→Vals (xs++ys) (us++ws)
 |_,_,_,_,.nil,s=>s
 |_,_,_,_,.cons r t,s=> .cons r (Vals.append t s)
theorem Vals.take: ∀{xs:List V} {us:List Value} (n:Nat),Vals xs us→Vals (xs.take n) (us.take n)
 |_,_,0,_=> .nil
 |_,_,_+1,.nil=> .nil
 |_,_,n+1,.cons r t=> .cons r (Vals.take n t)
theorem Vals.drop: ∀{xs:List V} {us:List Value} (n:Nat),Vals xs us→Vals (xs.drop n) (us.drop n)
 |_,_,0,r=>r
 |_,_,_+1,.nil=> .nil
 |_,_,n+1,.cons _ t=>Vals.drop n t
def ig:Option V→Option Value→Prop
 |some v,some u=>RelV v u
 |none,none=>True
 |_,_=>False
def KV {κ:Type}:List (κ×V)→List (κ×Value)→Prop:=Paired fun (p:κ×V) (q:κ×Value)=>p.1=q.1∧RelV p.2 q.2
noncomputable def kV:Key→V
 | .inl i=> .int i
 | .inr x=> .str x
inductive HO where

 |lst (xs:List V)

 |tup (xs:List V)

 |dK (kvs:List (Key×V))|dT (kvs:List (List Key×V))

 |set (S:Int→Bool) (n:Nat)

 |ins (C dx:Addr) (fs:List (Str×V))

 |own (x:Addr)

 |xd (fs:List (Str×V))

 |met (f x:Addr)

 |rng (lo hi:Int)

 |frz (o:Obj) (u:HO)

 |tbl (ps:Array Value)

 |ext (φ:Heap→Prop)
noncomputable abbrev Hp:=Addr→Option HO
noncomputable def upd (H:Hp) (a:Addr) (o:HO):Hp:=fun b=>if b=a then some o else H b
theorem ak {H:Hp} {a:Addr} {o:HO}:upd H a o a=some o:=by unfold upd;rw [if_pos rfl]
theorem af {H:Hp} {a b:Addr} {o:HO} (h:b≠a):upd H a o b=H b:=by unfold upd;rw [if_neg h]
theorem aE {H:Hp} {a b:Addr} {o:HO} (h:H a=some o) (h':H b=none):a≠b:=by
 intro e;subst e;rw [h] at h';cases h'
section
variable (P:Program) (w:World)
def bf (H:Hp) (h:Heap) (a:Addr):HO→Prop
 | .lst xs=>xs.length≤sizeLine∧∃(its:List Value) (n:Nat),Vals xs its∧h.get? a=some {cls:= .type "list",data:= .seq its.toArray n}
 | .tup xs=>xs.length≤sizeLine∧∃its:List Value,Vals xs its∧IsTup h a its.toArray
 | .dK kvs=>kvs.length≤sizeLine∧(a == sysModules)=false∧∃vs,KV kvs vs∧h.DictOf (iI P w) a vs
 |
   .dT kvs=>kvs.length≤sizeLine∧(a == sysModules)=false∧∃xs:List (List Key×Addr×Value),
   Paired (fun (p:List Key×V) (q:List Key×Addr×Value)=>p.1=q.1∧H q.2.1=some (.tup (p.1.map kV))∧RelV p.2 q.2.2) kvs xs∧
   ∃o es ep,h.get? a=some o∧o.ExactDict∧o.data = .dict es ep∧es.toList=xs.map (entryOfKey (tupleKind (iI P w)))∧(xs.map (·.1)).Nodup
 | .set S n=>h.SetOf (intKind P w) a S n
 |
   .ins C dx fs=>H dx=some (.own a)∧fs.length≤1000∧dx≠a∧h.get? a=some (PySem.W.instObj C dx)∧
   ∃mA,h.Ns1 dx mA∧(∀f,ig (fs.lookup f) (mA f))∧PySem.Within mA (fs.map (·.1))
 | .own _=> ∃o,h.get? a=some o
 | .xd fs=> ∃mA,h.Ns1 a mA∧∀f,ig (fs.lookup f) (mA f)
 | .rng lo hi=> ∃t u v,h.get? a=some {cls:= .type "range",data:= .fields #[.int lo t,.int hi u,.int 1 v]}
 | .frz o u=>h.get? a=some o∧bf H h a u
 | .tbl ps=>h.get? a=some {cls:= .none,data:= .fields ps}
 | .met f x=>h.get? a=some (PySem.W.methodObj (.ref f) (.ref x))
 | .ext φ=>φ h∧(∃o,h.get? a=some o)∧∀h1 h2:Heap,φ h1→(∀o,h1.get? a=some o→h2.get? a=some o)→φ h2
def eK (H:Hp) (h:Heap):Prop:= ∀a o,H a=some o→bf P w H h a o
end
section
variable {P:Program} {w:World} {H H':Hp} {h h':Heap} {a:Addr} {o:HO}
theorem bf.lt (x:bf P w H h a o):a<h.objs.size:=by
 cases o with
 |lst xs=>obtain ⟨_,_,_,_,e⟩:=x;exact Heap.lt_size e
 |tup xs=>obtain ⟨_,_,_,p⟩:=x;exact p.lt
 |dK kvs=>obtain ⟨_,_,_,_,o,_,_,e,_⟩:=x;exact Heap.lt_size e
 |dT kvs=>obtain ⟨_,_,_,_,o,_,_,e,_⟩:=x;exact Heap.lt_size e
 |set S n=>obtain ⟨o,_,_,_,e,_⟩:=x;exact Heap.lt_size e
 |ins C dx fs=>obtain ⟨_,_,_,e,_⟩:=x;exact Heap.lt_size e
 |own y=>obtain ⟨_,e⟩:=x;exact Heap.lt_size e
 |xd fs=>obtain ⟨_,⟨_,_,_,e,_⟩,_⟩:=x;exact Heap.lt_size e
 |rng lo hi=>obtain ⟨_,_,_,e⟩:=x;exact Heap.lt_size e
 |frz ob u=>obtain ⟨e,_⟩:=x;exact Heap.lt_size e
 |tbl ps=>exact Heap.lt_size (show h.get? a=some _ from x)
 |met f y=>exact Heap.lt_size (show h.get? a=some _ from x)
 |ext φ=>obtain ⟨_,⟨_,e⟩,_⟩:=x;exact Heap.lt_size e
theorem Paired.qu {α β:Type} {F G:α→β→Prop}: ∀{l₁:List α} {l₂:List β},Paired F l₁ l₂→(∀a b,F a b→G a b)→Paired G l₁ l₂
 |_,_,.nil,_=> .nil
 |_,_,.cons r t,f=> .cons (f _ _ r) (Paired.qu t f)
theorem bf.stay (x:bf P w H h a o) (k: ∀b u,(b=a∨H b=some (.own a))→h.get? b=some u→h'.get? b=some u)
  (ho: ∀b,H b=some (.own a)→H' b=some (.own a)) (ht: ∀b xs,H b=some (.tup xs)→H' b=some (.tup xs)):bf P w H' h' a o:=by
 induction o with
 |lst xs=>obtain ⟨z,its,n,r,e⟩:=x;exact ⟨z,its,n,r,k _ _ (.inl rfl) e⟩
 |tup xs=>obtain ⟨z,its,r,ob,e,c⟩:=x;exact ⟨z,its,r,ob,k _ _ (.inl rfl) e,c⟩
 |dK kvs=>obtain ⟨z,y,vs,r,ob,es,ep,e,c⟩:=x;exact ⟨z,y,vs,r,ob,es,ep,k _ _ (.inl rfl) e,c⟩
 |dT kvs=>
  obtain ⟨z,y,xs,r,ob,es,ep,e,c⟩:=x
  exact ⟨z,y,xs,Paired.qu r fun p q z=>⟨z.1,ht _ _ z.2.1,z.2.2⟩,ob,es,ep,k _ _ (.inl rfl) e,c⟩
 |set S n=>obtain ⟨ob,es,ep,t,e,c⟩:=x;exact ⟨ob,es,ep,t,k _ _ (.inl rfl) e,c⟩
 |ins C dx fs=>
  obtain ⟨d,z,ne,e,mA,⟨od,es,ep,e2,c⟩,r⟩:=x
  exact ⟨ho _ d,z,ne,k _ _ (.inl rfl) e,mA,⟨od,es,ep,k _ _ (.inr d) e2,c⟩,r⟩
 |own y=>obtain ⟨ob,e⟩:=x;exact ⟨ob,k _ _ (.inl rfl) e⟩
 |xd fs=>obtain ⟨mA,⟨od,es,ep,e,c⟩,r⟩:=x;exact ⟨mA,⟨od,es,ep,k _ _ (.inl rfl) e,c⟩,r⟩
 |rng lo hi=>obtain ⟨t,u,v,e⟩:=x;exact ⟨t,u,v,k _ _ (.inl rfl) e⟩
 |frz ob u ih=>obtain ⟨e,q⟩:=x;exact ⟨k _ _ (.inl rfl) e,ih q⟩
 |tbl ps=>
  have e:h.get? a=some {cls:= .none,data:= .fields ps}:=x
  show h'.get? a=some {cls:= .none,data:= .fields ps}
  exact k a _ (.inl rfl) e
 |met f y=>
  have e:h.get? a=some (PySem.W.methodObj (.ref f) (.ref y)):=x
  show h'.get? a=some (PySem.W.methodObj (.ref f) (.ref y))
  exact k a _ (.inl rfl) e
 |ext φ=>obtain ⟨p,⟨o,e⟩,st⟩:=x;exact ⟨st _ _ p fun o q=>k _ _ (.inl rfl) q,⟨o,k _ _ (.inl rfl) e⟩,st⟩
theorem eK.lt (x:eK P w H h) (e:H a=some o):a<h.objs.size:=(x a o e).lt
theorem eK.fresh (x:eK P w H h) (e:h.objs.size≤a):H a=none:=by
 cases q:H a with
 |none=>rfl
 |some u=>exact absurd (Nat.lt_of_lt_of_le (x.lt q) e) (Nat.lt_irrefl _)
theorem eK.kept (x:eK P w H h) (k: ∀b u,h.get? b=some u→h'.get? b=some u):eK P w H h':=fun a o e=>
 (x a o e).stay (fun b u _ q=>k b u q) (fun _ q=>q) fun _ _ q=>q
theorem eK.laid (x:eK P w H h) (k: ∀b u,h.get? b=some u→h'.get? b=some u) (hp:h.objs.size≤a) (new:bf P w (upd H a o) h' a o):eK P w (upd H a o) h':=fun b u e=>by
 have hn:=x.fresh hp
 by_cases hb:b=a
 ·subst hb;rw [ak] at e;cases e;exact new
 ·
  rw [af hb] at e
  exact (x b u e).stay (fun c v _ q=>k c v q) (fun c q=>by rw [af (aE q hn)];exact q) fun c xs q=>by rw [af (aE q hn)];exact q
end
def Rd (H:Hp) (a:Addr) (u:HO):Prop:=H a=some u∨∃o,H a=some (.frz o u)
theorem Rd.ok {P:Program} {w:World} {H:Hp} {h:Heap} {a:Addr} {u:HO} (r:Rd H a u) (x:eK P w H h):bf P w H h a u:=by
 rcases r with r|⟨o,r⟩
 ·exact x a u r
 ·
  obtain ⟨_,q⟩:=x a _ r
  exact q
section
variable {P:Program} {w:World} {H:Hp} {h h':Heap} {x e:Addr} {o':HO}
end
structure Un (fs ex:List Addr) (H H':Hp) (h h':Heap):Prop where
 keep: ∀b o,h.get? b=some o→H b=none→b ∉ fs→b ∉ ex→h'.get? b=some o
 slot: ∀b o,h.get? b=some o→H b=none→b∈fs→b ∉ ex→∃sl,h'.get? b=some {o with slots:=sl}
 free: ∀b o,h.get? b=some o→H b=none→b ∉ ex→H' b=none
 there: ∀b o,h.get? b=some o→b ∉ ex→∃o',h'.get? b=some o'
 tups: ∀b xs,H b=some (.tup xs)→H' b=some (.tup xs)
 frzs: ∀b o u,H b=some (.frz o u)→H' b=some (.frz o u)
 tbls: ∀b ps,H b=some (.tbl ps)→∃more,H' b=some (.tbl (ps++more))
section
variable {fs fs' ex ex':List Addr} {H H1 H2:Hp} {h h1 h2 h':Heap} {a x e:Addr} {o:HO}
theorem Un.any (u:Un fs ex H H1 h h1) {b:Addr} {ob:Obj} (q:h.get? b=some ob) (n:H b=none) (hx:b ∉ ex): ∃sl,h1.get? b=some {ob with slots:=sl}:=by
 by_cases hb:b∈fs
 ·exact u.slot b ob q n hb hx
 ·exact ⟨ob.slots,u.keep b ob q n hb hx⟩
theorem Un.kept (k: ∀b u,h.get? b=some u→h'.get? b=some u):Un fs ex H H h h':=
 ⟨fun b ob q _ _ _=>k b ob q,fun b ob q _ _ _=>⟨ob.slots,k b ob q⟩,fun _ _ _ n _=>n,fun b ob q _=>⟨ob,k b ob q⟩,fun _ _ q=>q,fun _ _ _ q=>q,fun _ ps q=>⟨#[],by rw [q];simp⟩⟩
theorem Un.refl:Un fs ex H H h h:=Un.kept fun _ _ q=>q
theorem Un.laid (k: ∀b u,h.get? b=some u→h'.get? b=some u) (hp:h.objs.size≤a) (hn:H a=none):Un fs ex H (upd H a o) h h' where
 keep:=fun b u q _ _ _=>k b u q
 slot:=fun b u q _ _ _=>⟨u.slots,k b u q⟩
 free:=fun b u q n _=>by rw [af (Nat.ne_of_lt (Nat.lt_of_lt_of_le (Heap.lt_size q) hp))];exact n
 there:=fun b u q _=>⟨u,k b u q⟩
 tups:=fun b xs q=>by rw [af (aE q hn)];exact q
 frzs:=fun b u xs q=>by rw [af (aE q hn)];exact q
 tbls:=fun b ps q=>⟨#[],by rw [af (aE q hn),q];simp⟩
end
noncomputable def trk (h:Heap) (H:Hp):List Addr:=(List.range h.objs.size).filter fun a=>(H a).isSome
noncomputable def fM (h:Heap) (H:Hp):Heap:=PySem.W.hideAll h (trk h H)
theorem jC (h:Heap) (H:Hp):(fM h H).objs.size=h.objs.size:=PySem.W.hideAll_size _ _
theorem kQ {h:Heap} {H:Hp} {b:Addr} {o:Obj} (e:h.get? b=some o) (n:H b=none):(fM h H).get? b=some o:=
 PySem.W.hideAll_get _ e fun hm=>by
  have q:(H b).isSome=true:=(List.mem_filter.mp hm).2
  rw [n] at q;simp at q
theorem mD {h:Heap} {H:Hp} {b:Addr} {o:Obj} (e:(fM h H).get? b=some o):h.get? b=some o∧H b=none:=by
 have e':h.get? b=some o:=PySem.W.of_hideAll (trk h H) e
 refine ⟨e',?_⟩
 cases q:H b with
 |none=>rfl
 |some x=>
  have hm:b∈trk h H:=List.mem_filter.mpr ⟨List.mem_range.mpr (Heap.lt_size e'),by simp [q]⟩
  have z:(fM h H).get? b=none:=PySem.W.hideAll_none (trk h H) hm
  rw [z] at e;cases e
structure Mod (K:PySem.W.Frag) (mg:Str→Option Value) (base:Heap):Prop where
 kin:K.In base
 glob:base.Ns mainGlobals mg
 blt: ∃mb,base.Ns builtinsNs mb∧∀x:Str,x≠ "__name__" →mb x=bootBuiltins x
 nolimit:base.NoLimit
structure Cx where
 prog:Program
 w:World
 K:PySem.W.Frag
 mg:Str→Option Value
 base:Heap
 A:Around
 N:List Str
 s₀:Shared
 H₀:Hp
 env:Env
 outer:List Env
 stack:List Env
 ex:List Addr
 fn:Str→Bool
 calm:Bool
 pn:List (Addr×Obj)
 xe:Value→Shared→Prop
noncomputable def frs (l:List Env):List Addr:=l.filterMap (·.frame)
noncomputable abbrev Cx.fs (X:Cx):List Addr:=frs X.outer
def qS (sc:Scope) (x:Str):Prop:=sc.names.lookup x=some .local∨sc.names.lookup x=some .cell∨sc.names.lookup x=some .free
def Loc (sc:Scope) (x:Str):Prop:=sc.names.lookup x=some .local∨sc.names.lookup x=some .cell
def Look (env:Env) (h:Heap) (m:Str→Option Value) (x:Str) (u:Value):Prop:=
 (env.kindOf x=some .local∧m x=some u)∨((env.kindOf x=some .cell∨env.kindOf x=some .free)∧∃c,env.cells.lookup x=some c∧h.IsCell c (some u))
structure Cx.Ok (X:Cx):Prop where
 mod:Mod X.K X.mg X.base
 kind:X.env.scope.kind = .function
 glob:X.env.globals=mainGlobals
 blt:X.env.builtins=builtinsNs
 above:X.s₀.heap.objs.size≤X.env.locals
 inj: ∀x y c,X.env.cells.lookup x=some c→X.env.cells.lookup y=some c→x=y
 has: ∀x,(X.env.kindOf x=some .cell∨X.env.kindOf x=some .free)→∃c,X.env.cells.lookup x=some c
 cab: ∀x c,X.fn x=true→X.env.cells.lookup x=some c→X.s₀.heap.objs.size≤c
 hd:X.calm=true→X.A.handled=none
 frames:X.A.frames=some X.stack
 stk:X.stack=X.outer∨(X.stack=X.env::X.outer∧X.env.frame=some X.env.locals)
 exf: ∀b∈X.ex,b≠X.env.locals∧∀x c,X.env.cells.lookup x=some c→c≠b
 bs: ∀b o,X.base.get? b=some o→X.s₀.heap.get? b=some o∧X.H₀ b=none
 bsz:X.base.objs.size≤X.s₀.heap.objs.size
 noex: ∀b o,X.base.get? b=some o→b ∉ X.ex
 exfs: ∀b∈X.ex,b ∉ X.fs
 funs:X.s₀.heap.FunFrames X.base X.outer
 frf: ∀b∈X.fs,X.H₀ b=none
structure Inv (X:Cx) (pins:List (Addr×Obj)) (σ:List (Option V)) (H:Hp) (s:Shared):Prop where
 ok:X.Ok
 os:s.os=X.s₀.os
 bare:AllBare s.gens
 base:Un X.fs X.ex X.H₀ H X.s₀.heap s.heap
 loc: ∃m,s.heap.Ns X.env.locals m∧∀(i:Nat) (x:Str) (v:V),X.N[i]?=some x→σ[i]?=some (some v)→qS X.env.scope x→∃u,RelV v u∧Look X.env s.heap m x u
 cell: ∀x c,X.env.cells.lookup x=some c→∃v,s.heap.IsCell c v
 free:H X.env.locals=none
 b2: ∀x c,X.env.cells.lookup x=some c→H c=none
 pin: ∀p∈X.pn++pins,s.heap.get? p.1=some p.2∧H p.1=none∧p.1≠X.env.locals∧p.1 ∉ X.fs∧∀v,p.2.data≠ .cell v
 hok:eK X.prog X.w H s.heap
 len:σ.length=X.N.length
section
variable {X:Cx} {pins:List (Addr×Obj)} {σ:List (Option V)} {H H':Hp} {s:Shared} {h':Heap}
theorem Cx.Ok.nofr (ok:X.Ok) {b:Addr} {o:Obj} (e:X.base.get? b=some o):b ∉ X.fs:=fun hb=>by
 have:=(ok.funs.mem hb).1
 rw [e] at this;cases this
theorem Inv.bs (I:Inv X pins σ H s): ∀b o,X.base.get? b=some o→s.heap.get? b=some o∧H b=none:=fun b o e=>
 ⟨I.base.keep b o (I.ok.bs b o e).1 (I.ok.bs b o e).2 (I.ok.nofr e) (I.ok.noex b o e),I.base.free b o (I.ok.bs b o e).1 (I.ok.bs b o e).2 (I.ok.noex b o e)⟩
theorem Inv.bk (I:Inv X pins σ H s): ∀b o,X.base.get? b=some o→s.heap.get? b=some o:=fun b o e=>(I.bs b o e).1
theorem Inv.mod (I:Inv X pins σ H s):Mod X.K X.mg X.base:=I.ok.mod
theorem Inv.dh (I:Inv X pins σ H s):X.K.In s.heap:=I.ok.mod.kin.keeps I.bk
theorem Inv.nolimit (I:Inv X pins σ H s):s.heap.NoLimit:=I.ok.mod.nolimit.keeps I.bk
theorem Inv.lt (I:Inv X pins σ H s):X.env.locals<s.heap.objs.size:=let ⟨_,hn,_⟩:=I.loc;hn.lt
theorem Inv.sz (I:Inv X pins σ H s):X.s₀.heap.objs.size≤s.heap.objs.size:=Nat.le_trans I.ok.above (Nat.le_of_lt I.lt)
theorem Inv.nofs (I:Inv X pins σ H s) {a:Addr} (h:s.heap.objs.size≤a):a ∉ X.fs:=fun hb=>by
 obtain ⟨_,o,ho,_⟩:=I.ok.funs.mem hb
 exact absurd (Nat.lt_of_lt_of_le (Heap.lt_size ho) (Nat.le_trans I.sz h)) (Nat.lt_irrefl _)
theorem Inv.cne (I:Inv X pins σ H s): ∀x c,X.env.cells.lookup x=some c→c≠X.env.locals:=fun x c e z=>by
 obtain ⟨v,o,ho,hd⟩:=I.cell x c e
 obtain ⟨m,⟨o',es,ep,ho',hd',_⟩,_⟩:=I.loc
 rw [z,ho'] at ho;cases ho;rw [hd'] at hd;cases hd
theorem Inv.funs (I:Inv X pins σ H s):s.heap.FunFrames X.base X.outer:=by
 have all: ∀(l:List Env),(∀b∈frs l,b∈X.fs)→X.s₀.heap.FunFrames X.base l→s.heap.FunFrames X.base l:=by
  intro l
  induction l with
  |nil=>intro _ _;trivial
  |cons env r ih=>
   intro hs hl
   obtain ⟨hk,⟨L,o,hf,hn,ho,hd⟩,hr⟩:=hl
   have hL:L∈X.fs:=hs L (by unfold frs;rw [List.filterMap_cons,hf];exact List.mem_cons_self)
   obtain ⟨sl,e⟩:=I.base.slot L o ho (I.ok.frf L hL) hL fun z=>I.ok.exfs L z hL
   exact ⟨hk,⟨L,_,hf,hn,e,hd⟩,ih (fun b hb=>hs b (by unfold frs;rw [List.filterMap_cons,hf];exact List.mem_cons_of_mem _ hb)) hr⟩
 exact all X.outer (fun _ hb=>hb) I.ok.funs
theorem Inv.stack (I:Inv X pins σ H s):s.heap.FunFrames X.base X.stack:=by
 rcases I.ok.stk with e|⟨e,hf⟩
 ·rw [e];exact I.funs
 ·
  rw [e]
  obtain ⟨m,hn,_⟩:=I.loc
  refine .cons (by rw [I.ok.kind];decide) hf hn ?_ I.funs
  exact Heap.get?_none_of_le (Nat.le_trans I.ok.bsz I.ok.above)
theorem Inv.d7 (I:Inv X pins σ H s): ∀b∈frs X.stack,b∈X.env.locals::X.fs:=fun b hb=>by
 rcases I.ok.stk with e|⟨e,hf⟩
 ·rw [e] at hb;exact List.mem_cons_of_mem _ hb
 ·
  rw [e] at hb
  unfold frs at hb
  rw [List.filterMap_cons,hf] at hb
  exact hb
theorem Inv.d0 (I:Inv X pins σ H s): ∀b∈frs X.stack,H b=none:=fun b hb=>by
 rcases List.mem_cons.mp (I.d7 b hb) with e|hb
 ·rw [e];exact I.free
 ·
  obtain ⟨_,o,ho,_⟩:=I.ok.funs.mem hb
  exact I.base.free b o ho (I.ok.frf b hb) fun z=>I.ok.exfs b z hb
theorem Inv.step {g':Array GenState} {t':Nat} {d':Drawn} {ch:List Addr} (I:Inv X pins σ H s)
  (hch: ∀b∈ch,(b∈X.ex∨X.s₀.heap.objs.size≤b)∧b≠X.env.locals∧(∀x c,X.env.cells.lookup x=some c→c≠b)∧∀p∈X.pn++pins,p.1≠b)
  (keep: ∀b o,b≠X.env.locals→b ∉ X.fs→b ∉ ch→s.heap.get? b=some o→H b=none→h'.get? b=some o)
  (slot: ∀b o,b≠X.env.locals→b∈X.fs→b ∉ ch→s.heap.get? b=some o→H b=none→∃sl,h'.get? b=some {o with slots:=sl}) (free: ∀b o,b ∉ ch→s.heap.get? b=some o→H b=none→H' b=none)
  (there: ∀b o,b ∉ ch→s.heap.get? b=some o→∃o',h'.get? b=some o')
  (tups: ∀b xs,H b=some (.tup xs)→H' b=some (.tup xs)) (frzs: ∀b o u,H b=some (.frz o u)→H' b=some (.frz o u)) (tbls: ∀b ps,H b=some (.tbl ps)→∃more,H' b=some (.tbl (ps++more)))
  (ns: ∀m,s.heap.Ns X.env.locals m→h'.Ns X.env.locals m) (hok:eK X.prog X.w H' h') (hg:AllBare g'):
  Inv X pins σ H' {s with heap:=h',gens:=g',drawn:=d',toks:=t'}:=by
 have neL: ∀b o,X.s₀.heap.get? b=some o→b≠X.env.locals:=fun b o e=>Nat.ne_of_lt (Nat.lt_of_lt_of_le (Heap.lt_size e) I.ok.above)
 have neC: ∀b o,X.s₀.heap.get? b=some o→b ∉ X.ex→b ∉ ch:=fun b o e hx hb=>by
  rcases (hch b hb).1 with z|z
  ·exact hx z
  ·exact absurd (Nat.lt_of_lt_of_le (Heap.lt_size e) z) (Nat.lt_irrefl _)
 have cellK: ∀x c,X.env.cells.lookup x=some c→∀v,s.heap.IsCell c v→h'.IsCell c v:=fun x c e v ⟨o,ho,hd⟩=>by
  have nch:c ∉ ch:=fun z=>(hch c z).2.2.1 x c e rfl
  by_cases hc:c∈X.fs
  ·
   obtain ⟨sl,q⟩:=slot c o (I.cne x c e) hc nch ho (I.b2 x c e)
   exact ⟨_,q,hd⟩
  ·exact ⟨o,keep c o (I.cne x c e) hc nch ho (I.b2 x c e),hd⟩
 refine ⟨I.ok,I.os,hg,⟨fun b o e n hb hx=>?_,fun b o e n hb hx=>?_,fun b o e n hx=>?_,fun b o e hx=>?_,fun b xs e=>tups b xs (I.base.tups b xs e),fun b o xs e=>frzs b o xs (I.base.frzs b o xs e),fun b ps e=>?_⟩,?_,fun x c e=>?_,?_,fun x c e=>?_,fun p hp=>?_,hok,I.len⟩
 ·exact keep b o (neL b o e) hb (neC b o e hx) (I.base.keep b o e n hb hx) (I.base.free b o e n hx)
 ·
  obtain ⟨sl,e1⟩:=I.base.slot b o e n hb hx
  obtain ⟨sl',e2⟩:=slot b _ (neL b o e) hb (neC b o e hx) e1 (I.base.free b o e n hx)
  exact ⟨sl',e2⟩
 ·
  obtain ⟨o',e1⟩:=I.base.there b o e hx
  exact free b o' (neC b o e hx) e1 (I.base.free b o e n hx)
 ·
  obtain ⟨o',e1⟩:=I.base.there b o e hx
  exact there b o' (neC b o e hx) e1
 ·
  obtain ⟨m1,e1⟩:=I.base.tbls b ps e
  obtain ⟨m2,e2⟩:=tbls b _ e1
  exact ⟨m1++m2,by rw [e2,Array.append_assoc]⟩
 ·
  obtain ⟨m,hn,hl⟩:=I.loc
  refine ⟨m,ns m hn,fun i x v e1 e2 e3=>?_⟩
  obtain ⟨u,r,l⟩:=hl i x v e1 e2 e3
  refine ⟨u,r,?_⟩
  rcases l with l|⟨k,c,e,z⟩
  ·exact .inl l
  ·exact .inr ⟨k,c,e,cellK x c e _ z⟩
 ·
  obtain ⟨v,z⟩:=I.cell x c e
  exact ⟨v,cellK x c e v z⟩
 ·
  obtain ⟨m,⟨o,_,_,ho,_⟩,_⟩:=I.loc
  exact free _ o (fun z=>(hch _ z).2.1 rfl) ho I.free
 ·
  obtain ⟨v,o,ho,hd⟩:=I.cell x c e
  exact free c o (fun z=>(hch c z).2.2.1 x c e rfl) ho (I.b2 x c e)
 ·
  obtain ⟨e,n,ne,nf,d⟩:=I.pin p hp
  have nch:p.1 ∉ ch:=fun z=>(hch p.1 z).2.2.2 p hp rfl
  exact ⟨keep p.1 p.2 ne nf nch e n,free p.1 p.2 nch e n,ne,nf,d⟩
theorem Inv.un {t':Nat} (I:Inv X pins σ H s) (u:Un X.fs [] H H' s.heap h') (hok:eK X.prog X.w H' h'):Inv X pins σ H' {s with heap:=h',toks:=t'}:=by
 obtain ⟨m,⟨o,es,ep,ho,r⟩,_⟩:=id I.loc
 obtain ⟨sl,hL⟩:=u.any ho I.free (by simp)
 exact I.step (g':=s.gens) (d':=s.drawn) (ch:=[]) (fun _ z=>nomatch z) (fun b o _ hb _ e n=>u.keep b o e n hb (by simp)) (fun b o _ hb _ e n=>u.slot b o e n hb (by simp)) (fun b o _ e n=>u.free b o e n (by simp)) (fun b o _ e=>u.there b o e (by simp)) u.tups u.frzs u.tbls (fun m' hm=>by
  obtain ⟨o',es',ep',ho',r'⟩:=hm
  rw [ho] at ho';cases ho'
  exact ⟨_,es',ep',hL,r'⟩) hok I.bare
theorem Inv.call {g':Array GenState} {t':Nat} {d':Drawn} {ch:List Addr} (I:Inv X pins σ H s) (u:Un (frs X.stack) ch H H' s.heap h') (hok:eK X.prog X.w H' h') (hg:AllBare g')
  (hch: ∀b∈ch,(b∈X.ex∨X.s₀.heap.objs.size≤b)∧b≠X.env.locals∧(∀x c,X.env.cells.lookup x=some c→c≠b)∧∀p∈X.pn++pins,p.1≠b):
  Inv X pins σ H' {s with heap:=h',gens:=g',drawn:=d',toks:=t'}:=by
 obtain ⟨m,⟨o,es,ep,ho,r⟩,_⟩:=id I.loc
 obtain ⟨sl,hL⟩:=u.any ho I.free fun z=>(hch _ z).2.1 rfl
 exact I.step (ch:=ch) hch (fun b o hL hb hc e n=>u.keep b o e n (fun z=>(List.mem_cons.mp (I.d7 b z)).elim hL hb) hc) (fun b o _ _ hc e n=>u.any e n hc) (fun b o hc e n=>u.free b o e n hc) (fun b o hc e=>u.there b o e hc) u.tups u.frzs u.tbls (fun m' hm=>by
  obtain ⟨o',es',ep',ho',r'⟩:=hm
  rw [ho] at ho';cases ho'
  exact ⟨_,es',ep',hL,r'⟩) hok hg
theorem Inv.turned {t':Nat} {it:Addr} (I:Inv X pins σ H s) (k: ∀b o,b≠it→s.heap.get? b=some o→h'.get? b=some o) (hn:H it=none) (hL:it≠X.env.locals)
  (h1:it∈X.ex∨X.s₀.heap.objs.size≤it) (h2: ∀x c,X.env.cells.lookup x=some c→c≠it) (h3: ∀p∈X.pn++pins,p.1≠it):Inv X pins σ H {s with heap:=h',toks:=t'}:=by
 have nit: ∀b u,H b=some u→b≠it:=fun b u e z=>by rw [z,hn] at e;cases e
 refine I.step (g':=s.gens) (d':=s.drawn) (ch:=[it]) (fun b hb=>?_) (fun b o _ _ hc e _=>k b o (fun z=>hc (by simp [z])) e) (fun b o _ _ hc e _=>⟨o.slots,k b o (fun z=>hc (by simp [z])) e⟩) (fun _ _ _ _ n=>n)
  (fun b o hc e=>⟨o,k b o (fun z=>hc (by simp [z])) e⟩) (fun _ _ e=>e) (fun _ _ _ e=>e) (fun b ps e=>⟨#[],by rw [e];simp⟩) (fun m hm=>?_) (fun b u e=>?_) I.bare
 ·
  have e:b=it:=by simpa using hb
  subst e
  exact ⟨h1,hL,h2,h3⟩
 ·
  obtain ⟨o,es,ep,ho,r⟩:=hm
  exact ⟨o,es,ep,k _ o (Ne.symm hL) ho,r⟩
 ·
  refine (I.hok b u e).stay (fun c v hc q=>k c v ?_ q) (fun _ q=>q) fun _ _ q=>q
  rcases hc with z|z
  ·rw [z];exact nit b u e
  ·exact nit c _ z
theorem Inv.tok (I:Inv X pins σ H s) (t:Nat):Inv X pins σ H {s with toks:=t}:=I.un (h':=s.heap) (t':=t) Un.refl I.hok
theorem Inv.kept {t':Nat} (I:Inv X pins σ H s) (k: ∀b u,s.heap.get? b=some u→h'.get? b=some u):Inv X pins σ H {s with heap:=h',toks:=t'}:=I.un (Un.kept k) (I.hok.kept k)
theorem Inv.laid {a:Addr} {o:HO} {t':Nat} (I:Inv X pins σ H s) (k: ∀b u,s.heap.get? b=some u→h'.get? b=some u) (hp:s.heap.objs.size≤a) (new:bf X.prog X.w (upd H a o) h' a o):
  Inv X pins σ (upd H a o) {s with heap:=h',toks:=t'}:=I.un (Un.laid k hp (I.hok.fresh hp)) (I.hok.laid k hp new)
theorem Inv.d2 {pins':List (Addr×Obj)} (I:Inv X pins σ H s) (h: ∀p∈pins',s.heap.get? p.1=some p.2∧H p.1=none∧p.1≠X.env.locals∧p.1 ∉ X.fs∧∀v,p.2.data≠ .cell v):Inv X pins' σ H s:=
 ⟨I.ok,I.os,I.bare,I.base,I.loc,I.cell,I.free,I.b2,fun p hp=>(List.mem_append.mp hp).elim (fun z=>I.pin p (List.mem_append_left _ z)) (h p),I.hok,I.len⟩
theorem eo {N:List Str} (hN:N.Nodup) {i j:Nat} {x:Str} (a:N[i]?=some x) (b:N[j]?=some x):i=j:=by
 obtain ⟨h1,e1⟩:=List.getElem?_eq_some_iff.mp a
 obtain ⟨h2,e2⟩:=List.getElem?_eq_some_iff.mp b
 exact (List.getElem_inj hN).mp (e1.trans e2.symm)
theorem i3 {M:Model} {A:Around} {E:Value→Shared→Prop} {i:Nat} {x:Str} {v:V} {u:Value} {Q:Unit→Shared→Prop} (I:Inv X pins σ H s) (hN:X.N.Nodup) (hi:X.N[i]?=some x) (hx:Loc X.env.scope x) (r:RelV v u)
  (h: ∀s',Inv X pins (σ.set i (some v)) H s'→(∃a,Heap.SameBut a s.heap s'.heap∧(a=X.env.locals∨X.env.cells.lookup x=some a))→Q () s') (hf:X.fn x=true∨X.env.scope.names.lookup x=some .local:=by first|exact .inl rfl|exact .inr rfl|assumption):wpAny M A (storeName X.env x u) Q E s:=by
 obtain ⟨m,hn,hl⟩:=id I.loc
 have hcls:(X.env.scope.kind == .class||(X.env.scope.kind == .module&&X.env.locals != X.env.globals))=false:=by rw [I.ok.kind];rfl
 have hiσ:i<σ.length:=by rw [I.len];exact (List.getElem?_eq_some_iff.mp hi).1
 have cne:=I.cne
 have tracked: ∀{a:Addr} {h':Heap},(∃o,s.heap.get? a=some o∧H a=none)→Heap.SameBut a s.heap h'→eK X.prog X.w H h':=fun {a h'} ha hs b ob e=>by
  obtain ⟨_,_,hfree⟩:=ha
  refine (I.hok b ob e).stay (fun c w' hc q=>(hs.2 c ?_).trans q) (fun _ q=>q) fun _ _ q=>q
  rintro rfl
  rcases hc with rfl|hc
  ·rw [hfree] at e;cases e
  ·rw [hfree] at hc;cases hc
 rcases hx with hk|hk
 ·
  refine wpAny_storeName_local hk hn (fun h' hn' hs=>?_) hcls
  obtain ⟨oL,_,_,hoL,_⟩:=id hn
  refine h _ ⟨I.ok,I.os,I.bare,⟨fun b o e n hb hx=>?_,fun b o e n hb hx=>?_,I.base.free,fun b o e hx=>?_,I.base.tups,I.base.frzs,I.base.tbls⟩,⟨_,hn',fun j y v' e1 e2 e3=>?_⟩,fun y c e=>?_,I.free,I.b2,fun p hp=>?_,tracked ⟨oL,hoL,I.free⟩ hs,by simpa using I.len⟩ ⟨_,hs,.inl rfl⟩
  ·exact (hs.2 b (Nat.ne_of_lt (Nat.lt_of_lt_of_le (Heap.lt_size e) I.ok.above))).trans (I.base.keep b o e n hb hx)
  ·
   obtain ⟨sl,e1⟩:=I.base.slot b o e n hb hx
   exact ⟨sl,(hs.2 b (Nat.ne_of_lt (Nat.lt_of_lt_of_le (Heap.lt_size e) I.ok.above))).trans e1⟩
  ·
   obtain ⟨o',e1⟩:=I.base.there b o e hx
   exact ⟨o',(hs.2 b (Nat.ne_of_lt (Nat.lt_of_lt_of_le (Heap.lt_size e) I.ok.above))).trans e1⟩
  ·
   by_cases hj:j=i
   ·
    subst hj
    rw [hi] at e1;cases e1
    rw [List.getElem?_set_self hiσ] at e2
    cases e2
    exact ⟨u,r,.inl ⟨hk,by simp⟩⟩
   ·
    rw [List.getElem?_set_ne (Ne.symm hj)] at e2
    obtain ⟨u',r',q⟩:=hl j y v' e1 e2 e3
    refine ⟨u',r',?_⟩
    rcases q with ⟨k,e⟩|⟨k,c,e,z⟩
    ·
     refine .inl ⟨k,?_⟩
     have:y≠x:=fun e=>hj (eo hN e1 (e▸hi))
     simp [this,e]
    ·exact .inr ⟨k,c,e,z.sameBut hs (cne y c e)⟩
  ·
   obtain ⟨w',z⟩:=I.cell y c e
   exact ⟨w',z.sameBut hs (cne y c e)⟩
  ·
   obtain ⟨e,n,ne,nf,d⟩:=I.pin p hp
   exact ⟨(hs.2 p.1 ne).trans e,n,ne,nf,d⟩
 ·have hfn:X.fn x=true:=by
   rcases hf with z|z
   ·exact z
   ·rw [z] at hk;cases hk
  obtain ⟨c,hc⟩:=I.ok.has x (.inl hk)
  obtain ⟨w',z⟩:=I.cell x c hc
  refine wpAny_storeName_cell I.ok.kind hk hc z (fun h' hc' hs=>?_)
  obtain ⟨oc,hoc,hocd⟩:=id z
  refine h {s with heap:=h'} ⟨I.ok,I.os,I.bare,⟨fun b o e n hb hx=>?_,fun b o e n hb hx=>?_,I.base.free,fun b o e hx=>?_,I.base.tups,I.base.frzs,I.base.tbls⟩,⟨m,hn.sameBut hs (Ne.symm (cne x c hc)),fun j y v' e1 e2 e3=>?_⟩,fun y c' e=>?_,I.free,I.b2,fun p hp=>?_,tracked ⟨oc,hoc,I.b2 x c hc⟩ hs,by simpa using I.len⟩ ⟨c,hs,.inr hc⟩
  ·exact (hs.2 b (Nat.ne_of_lt (Nat.lt_of_lt_of_le (Heap.lt_size e) (I.ok.cab x c hfn hc)))).trans (I.base.keep b o e n hb hx)
  ·
   obtain ⟨sl,e1⟩:=I.base.slot b o e n hb hx
   exact ⟨sl,(hs.2 b (Nat.ne_of_lt (Nat.lt_of_lt_of_le (Heap.lt_size e) (I.ok.cab x c hfn hc)))).trans e1⟩
  ·
   obtain ⟨o',e1⟩:=I.base.there b o e hx
   exact ⟨o',(hs.2 b (Nat.ne_of_lt (Nat.lt_of_lt_of_le (Heap.lt_size e) (I.ok.cab x c hfn hc)))).trans e1⟩
  ·
   by_cases hj:j=i
   ·
    subst hj
    rw [hi] at e1;cases e1
    rw [List.getElem?_set_self hiσ] at e2
    cases e2
    exact ⟨u,r,.inr ⟨.inl hk,c,hc,hc'⟩⟩
   ·
    rw [List.getElem?_set_ne (Ne.symm hj)] at e2
    obtain ⟨u',r',q⟩:=hl j y v' e1 e2 e3
    refine ⟨u',r',?_⟩
    rcases q with q|⟨k,c',e,z'⟩
    ·exact .inl q
    ·
     refine .inr ⟨k,c',e,z'.sameBut hs ?_⟩
     rintro rfl
     exact hj (eo hN e1 (I.ok.inj _ _ _ e hc▸hi))
  ·
   by_cases hcc:c'=c
   ·subst hcc;exact ⟨_,hc'⟩
   ·
    obtain ⟨w2,z2⟩:=I.cell y c' e
    exact ⟨w2,z2.sameBut hs hcc⟩
  ·
   obtain ⟨e,n,ne,nf,d⟩:=I.pin p hp
   refine ⟨(hs.2 p.1 ?_).trans e,n,ne,nf,d⟩
   intro q
   rw [q,hoc] at e
   have q':oc=p.2:=Option.some.inj e
   exact d w' (by rw [←q'];exact hocd)
theorem cu {M:Model} {A:Around} {E:Value→Shared→Prop} {i:Nat} {x:Str} {v:V} {u:Value} {Q:Unit→Shared→Prop} (I:Inv X pins σ H s) (hN:X.N.Nodup) (hi:X.N[i]?=some x) (hx:Loc X.env.scope x) (r:RelV v u)
  (h: ∀s',Inv X pins (σ.set i (some v)) H s'→Q () s') (hf:X.fn x=true∨X.env.scope.names.lookup x=some .local:=by first|exact .inl rfl|exact .inr rfl|assumption):wpAny M A (storeName X.env x u) Q E s:=
 i3 I hN hi hx r (fun s' I' _=>h s' I') hf
theorem Inv.call' {s':Shared} {ch:List Addr} (I:Inv X pins σ H s) (ho:s'.os=s.os) (u:Un (frs X.stack) ch H H' s.heap s'.heap) (hok:eK X.prog X.w H' s'.heap) (hg:AllBare s'.gens)
  (hch: ∀b∈ch,(b∈X.ex∨X.s₀.heap.objs.size≤b)∧b≠X.env.locals∧(∀x c,X.env.cells.lookup x=some c→c≠b)∧∀p∈X.pn++pins,p.1≠b):Inv X pins σ H' s':=by
 obtain ⟨h',g',d',t',o'⟩:=s'
 have e:o'=s.os:=ho
 subst e
 exact I.call (g':=g') (t':=t') (d':=d') u hok hg hch
end
noncomputable abbrev XK:=Value→Option Addr→Hp→Prop
noncomputable abbrev St:=List (Option V)
noncomputable abbrev VK:=V→Hp→Prop
noncomputable abbrev TE:=St→Hp→VK→Prop
noncomputable abbrev TT:=St→Hp→(Bool→Hp→Prop)→Prop
noncomputable abbrev TA:=St→Hp→(List V→Hp→Prop)→Prop
structure Ends where
 nx:St→Hp→Prop
 rt:VK
 bk:St→Hp→Prop:=fun _ _=>False
 ct:St→Hp→Prop:=fun _ _=>False
noncomputable abbrev TS:=Ends→St→Hp→Prop
def EP (X:Cx) (pins:List (Addr×Obj)) (σ:St) (Q:VK) (u:Value) (s':Shared):Prop:= ∃v H',Inv X pins σ H' s'∧RelV v u∧Q v H'
def TP (X:Cx) (pins:List (Addr×Obj)) (σ:St) (Q:Bool→Hp→Prop) (b:Bool) (s':Shared):Prop:= ∃H',Inv X pins σ H' s'∧Q b H'
def AP (X:Cx) (pins:List (Addr×Obj)) (σ:St) (Q:List V→Hp→Prop) (us:List Value) (s':Shared):Prop:= ∃vs H',Inv X pins σ H' s'∧Vals vs us∧Q vs H'
def SP (X:Cx) (pins:List (Addr×Obj)) (D:Ends) (f:Flow) (s':Shared):Prop:=
 match f with
 | .next=> ∃σ' H',Inv X pins σ' H' s'∧D.nx σ' H'
 | .brk=> ∃σ' H',Inv X pins σ' H' s'∧D.bk σ' H'
 | .cont=> ∃σ' H',Inv X pins σ' H' s'∧D.ct σ' H'
 | .ret u=> ∃v σ' H',Inv X pins σ' H' s'∧RelV v u∧D.rt v H'
def PE (X:Cx) (e:Expr) (t:TE):Prop:=
 ∀(pins:List (Addr×Obj)) (s:Shared) (σ:St) (H:Hp) (Q:VK),Inv X pins σ H s→t σ H Q→wpAny (model X.prog X.w) X.A (eval e X.env) (EP X pins σ Q) X.xe s
def PT (X:Cx) (e:Expr) (t:TT):Prop:=
 ∀(pins:List (Addr×Obj)) (s:Shared) (σ:St) (H:Hp) (Q:Bool→Hp→Prop),Inv X pins σ H s→t σ H Q→wpAny (model X.prog X.w) X.A (isTrue e X.env (eval e X.env)) (TP X pins σ Q) X.xe s
def PW (X:Cx) (e:Expr) (t:TT):Prop:=
 ∀(whole:Sem Value) (pins:List (Addr×Obj)) (s:Shared) (σ:St) (H:Hp) (Q:Bool→Hp→Prop),Inv X pins σ H s→t σ H Q→wpAny (model X.prog X.w) X.A (isTrue e X.env whole) (TP X pins σ Q) X.xe s
theorem PW.pt {X:Cx} {e:Expr} {t:TT} (h:PW X e t):PT X e t:=h _
def PA (X:Cx) (es:List Expr) (t:TA):Prop:=
 ∀(pos:Pos) (pins:List (Addr×Obj)) (s:Shared) (σ:St) (H:Hp) (Q:List V→Hp→Prop),Inv X pins σ H s→t σ H Q→wpAny (model X.prog X.w) X.A (spliced (backTo pos (starEach es X.env))) (AP X pins σ Q) X.xe s
def PS (X:Cx) (st:Stmt) (t:TS):Prop:=
 ∀(pins:List (Addr×Obj)) (s:Shared) (σ:St) (H:Hp) (D:Ends),Inv X pins σ H s→t D σ H→wpAny (model X.prog X.w) X.A (exec st X.env) (SP X pins D) X.xe s
def eI (X:Cx) (st:List Stmt) (t:TS):Prop:=
 ∀(pins:List (Addr×Obj)) (s:Shared) (σ:St) (H:Hp) (D:Ends),Inv X pins σ H s→t D σ H→wpAny (model X.prog X.w) X.A (execs st X.env) (SP X pins D) X.xe s
theorem thn {α:Type} {t:Sem α} {Q Q':α→Shared→Prop} {M:Model} {A:Around} {E:Value→Shared→Prop} {s:Shared} (h:wpAny M A t Q E s) (hQ: ∀a s,Q a s→Q' a s):wpAny M A t Q' E s:=wpAny_mono h hQ fun _ _ x=>x
section
variable {X:Cx}
def nR (i:Nat):TE:=fun σ H Q=> ∃v,σ[i]?=some (some v)∧Q v H
def tC (v:V):TE:=fun _ H Q=>Q v H
theorem oC {i:Nat} {x:Str} {pos:Pos} (hN:X.N[i]?=some x) (hv:qS X.env.scope x) (hd:(x == ("__debug__" : Str))=false:=by decide) (hcd:(x == ("__classdict__" : Str))=false:=by decide):PE X (.Name x pos) (nR i):=by
 intro pins s σ H Q I h
 obtain ⟨v,e,h⟩:=h
 obtain ⟨m,hn,hl⟩:=I.loc
 obtain ⟨u,r,l⟩:=hl i x v hN e hv
 have fin:EP X pins σ Q u s:=⟨v,H,I,r,h⟩
 rcases l with ⟨hk,hm⟩|⟨hk,c,hc,hcell⟩
 ·exact wpAny_Name (wpAny_loadName_local I.ok.kind hk hn hm fin) hd
 ·
  rcases hk with hk|hk
  ·exact wpAny_Name (wpAny_loadName_cell I.ok.kind hk hc hcell fin) hd
  ·exact wpAny_Name (wpAny_loadName_free I.ok.kind hk hc hcell fin hcd) hd
theorem ae {i j pos}:PE X (.Constant (.int i) j pos) (tC (.int i)):=fun _ _ _ H _ I h=>wpAny_Constant_int ⟨.int i,H,I.tok _,⟨_,rfl⟩,h⟩
theorem df {b j pos}:PE X (.Constant (.bool b) j pos) (tC (.bl b)):=fun _ _ _ H _ I h=>Constant_bool ⟨.bl b,H,I,rfl,h⟩
theorem oG {j pos}:PE X (.Constant .none j pos) (tC .non):=fun _ _ _ H _ I h=>Constant_none ⟨.non,H,I,rfl,h⟩
theorem cn {x j pos}:PE X (.Constant (.str x) j pos) (tC (.str x)):=fun _ _ _ H _ I h=>Calls.Constant_str ⟨.str x,H,I.tok _,⟨_,rfl⟩,h⟩
def Gl (X:Cx) (x:Str):Prop:=X.env.kindOf x=some .globalImplicit
theorem dz {E:Value→Shared→Prop} {pins:List (Addr×Obj)} {s:Shared} {σ:St} {H:Hp} {x:Str} {u:Value} {pos:Pos} {Q:Value→Shared→Prop} (I:Inv X pins σ H s) (hg:Gl X x) (hm:X.mg x=some u) (h:Q u s)
  (hd:(x == ("__debug__" : Str))=false:=by decide):wpAny (model X.prog X.w) X.A (eval (.Name x pos) X.env) Q E s:=
 Calls.Name_function_global I.ok.kind hg (Calls.loadGlobal_global (by rw [I.ok.glob];exact I.mod.glob.keeps I.bk) hm h) hd
theorem fL {E:Value→Shared→Prop} {pins:List (Addr×Obj)} {s:Shared} {σ:St} {H:Hp} {x:Str} {u:Value} {pos:Pos} {Q:Value→Shared→Prop} (I:Inv X pins σ H s) (hg:Gl X x) (hm:X.mg x=none) (hv:bootBuiltins x=some u) (h:Q u s)
  (hn:x≠ "__name__" :=by decide) (hd:(x == ("__debug__" : Str))=false:=by decide):wpAny (model X.prog X.w) X.A (eval (.Name x pos) X.env) Q E s:=by
 obtain ⟨mb,h1,h2⟩:=I.mod.blt
 exact Calls.Name_function_global I.ok.kind hg (Calls.loadGlobal_builtin (by rw [I.ok.glob];exact I.mod.glob.keeps I.bk) hm (by rw [I.ok.blt];exact h1.keeps I.bk) ((h2 x hn).trans hv) h) hd
theorem iG {x:Str} {v:V} {u:Value} {pos:Pos} (hg:Gl X x) (hm:X.mg x=some u) (r:RelV v u) (hd:(x == ("__debug__" : Str))=false:=by decide):PE X (.Name x pos) (tC v):=
 fun _ _ _ H _ I h=>dz I hg hm ⟨v,H,I,r,h⟩ hd
theorem mx {x:Str} {v:V} {u:Value} {pos:Pos} (hg:Gl X x) (hm:X.mg x=none) (hv:bootBuiltins x=some u) (r:RelV v u) (hn:x≠ "__name__" :=by decide) (hd:(x == ("__debug__" : Str))=false:=by decide):PE X (.Name x pos) (tC v):=
 fun _ _ _ H _ I h=>fL I hg hm hv ⟨v,H,I,r,h⟩ hn hd
variable {a b:Expr} {ta tb:TE} {pos:Pos}
def tB (t:TE):TT:=fun σ H Q=>t σ H fun x H1=> ∃c,x = .bl c∧Q c H1
theorem ow {e:Expr} {t:TE} (h:PE X e t) (he: ∀whole,isTrue e X.env whole=(do let v←whole;standAt e.pos;holding [v] (truthy v)):=by intro _;rfl):PT X e (tB t):=by
 intro pins s σ H Q I hw
 refine isTrue_plain (thn (h pins s σ H _ I hw) fun v s1 ⟨x,H1,I1,r1,q1⟩=>?_) (he _)
 obtain ⟨d,rfl,q⟩:=q1
 cases r1
 exact wpAny_truthy_bool ⟨H1,I1,q⟩
variable {tA tB':TT} {rest:List Expr}
def p9 (t u:TT):TT:=fun σ H Q=>t σ H fun c H1=>if c=true then u σ H1 Q else Q false H1
def rG (t u:TT):TT:=fun σ H Q=>t σ H fun c H1=>if c=true then Q true H1 else u σ H1 Q
def pZ (t:TT):TT:=fun σ H Q=>t σ H fun c H1=>Q (!c) H1
theorem pw_and1 (ha:PT X a tA):PW X (.BoolOp .And [a] pos) tA:=by
 intro wh pins s σ H Q I h
 refine isTrue_and (thn (ha pins s σ H Q I h) fun c s1 e=>?_)
 cases c with
 |true=>exact isTrue_and_nil e
 |false=>exact e
theorem pw_or1 (ha:PT X a tA):PW X (.BoolOp .Or [a] pos) tA:=by
 intro wh pins s σ H Q I h
 refine isTrue_or (thn (ha pins s σ H Q I h) fun c s1 e=>?_)
 cases c with
 |false=>exact isTrue_or_nil e
 |true=>exact e
theorem pw_and (ha:PT X a tA) (hb:PW X (.BoolOp .And (b::rest) pos) tB'):PW X (.BoolOp .And (a::b::rest) pos) (p9 tA tB'):=by
 intro wh pins s σ H Q I h
 refine isTrue_and (thn (ha pins s σ H _ I h) fun c s1 ⟨H1,I1,q1⟩=>?_)
 cases c with
 |true=>exact hb wh pins s1 σ H1 Q I1 q1
 |false=>exact ⟨H1,I1,q1⟩
theorem pw_or (ha:PT X a tA) (hb:PW X (.BoolOp .Or (b::rest) pos) tB'):PW X (.BoolOp .Or (a::b::rest) pos) (rG tA tB'):=by
 intro wh pins s σ H Q I h
 refine isTrue_or (thn (ha pins s σ H _ I h) fun c s1 ⟨H1,I1,q1⟩=>?_)
 cases c with
 |true=>exact ⟨H1,I1,q1⟩
 |false=>exact hb wh pins s1 σ H1 Q I1 q1
theorem cC (ha:PT X a tA):PT X (.UnaryOp .Not a pos) (pZ tA):=by
 intro pins s σ H Q I h
 exact isTrue_not (ha pins s σ H (fun c H1=>Q (!c) H1) I h)
def nk (ta tb:TE):TE:=fun σ H Q=>ta σ H fun x H1=> ∃c,x = .bl c∧if c=true then tb σ H1 Q else Q (.bl false) H1
def qW (ta tb:TE):TE:=fun σ H Q=>ta σ H fun x H1=> ∃c,x = .bl c∧if c=true then Q (.bl true) H1 else tb σ H1 Q
def ni (ta:TE):TE:=fun σ H Q=>ta σ H fun x H1=> ∃c,x = .bl c∧Q (.bl (!c)) H1
theorem fE {op} {t:TE} (h:PE X a t):PE X (.BoolOp op [a] pos) t:=fun pins s σ H Q I hw=>BoolOp_one (h pins s σ H Q I hw)
theorem fG (ha:PE X a ta) (hb:PE X (.BoolOp .And (b::rest) pos) tb):PE X (.BoolOp .And (a::b::rest) pos) (nk ta tb):=by
 intro pins s σ H Q I h
 refine BoolOp_and (thn (ha pins s σ H _ I h) fun v s1 ⟨x,H1,I1,r1,q1⟩=>?_)
 obtain ⟨c,rfl,q1⟩:=q1
 cases r1
 refine wpAny_truthy_bool ?_
 cases c with
 |true=>exact hb pins s1 σ H1 Q I1 q1
 |false=>exact ⟨.bl false,H1,I1,rfl,q1⟩
theorem oF (ha:PE X a ta):PE X (.UnaryOp .Not a pos) (ni ta):=by
 intro pins s σ H Q I h
 refine UnaryOp_ (thn (ha pins s σ H _ I h) fun v s1 ⟨x,H1,I1,r1,q1⟩=>?_)
 obtain ⟨c,rfl,q1⟩:=q1
 cases r1
 exact not_of (wpAny_truthy_bool ⟨.bl (!c),H1,I1,rfl,q1⟩)
def rH (t:TT) (ta tb:TE):TE:=fun σ H Q=>t σ H fun c H1=>if c=true then ta σ H1 Q else tb σ H1 Q
theorem gj {c:Expr} (hc:PT X c tA) (ha:PE X a ta) (hb:PE X b tb):PE X (.IfExp c a b pos) (rH tA ta tb):=by
 intro pins s σ H Q I h
 refine wpAny_IfExp (thn (hc pins s σ H _ I h) fun d s1 ⟨H1,I1,q1⟩=>?_)
 cases d with
 |true=>exact ha pins s1 σ H1 Q I1 q1
 |false=>exact hb pins s1 σ H1 Q I1 q1
end
theorem iA {H:Hp} {a:Addr} {u:HO} (h:Rd H a u) (n:H a=none):False:=by rcases h with h|⟨_,h⟩<;>(rw [h] at n;cases n)
theorem lS {H:Hp} {a:Addr} {xs ys:List V} (h:Rd H a (.lst xs)) (q:Rd H a (.lst ys)):xs=ys:=by rcases h with h|⟨_,h⟩<;>rcases q with q|⟨_,q⟩<;>(rw [h] at q;cases q;try rfl)
theorem lR {H:Hp} {a:Addr} {xs ys:List V} (h:Rd H a (.tup xs)) (q:Rd H a (.tup ys)):xs=ys:=by rcases h with h|⟨_,h⟩<;>rcases q with q|⟨_,q⟩<;>(rw [h] at q;cases q;try rfl)
noncomputable def ntok:V→Bool
 | .tok _=>false
 |_=>true
def bP (K:PySem.W.Frag) (H:Hp) (a:Addr) (xs:List V):Prop:=
 Rd H a (.lst xs)∨
  ∃(o:Obj) (its:Array Value) (n:Nat),K.lookup a=some o∧o.cls = .type "list" ∧o.dict=none∧o.data = .seq its n∧its.size≤sizeLine∧Vals xs its.toList∧∀x∈xs,ntok x=true
def c2 (K:PySem.W.Frag) (H:Hp) (a:Addr) (xs:List V):Prop:=
 Rd H a (.tup xs)∨
  ∃(o:Obj) (its:Array Value) (n:Nat),K.lookup a=some o∧o.cls = .type "tuple" ∧o.data = .seq its n∧its.size≤sizeLine∧Vals xs its.toList∧∀x∈xs,ntok x=true
noncomputable def rp:Value→Option V
 | .none=>some .non
 | .bool b=>some (.bl b)
 | .int i _=>some (.int i)
 | .str x _=>some (.str x)
 | .bytes b _=>some (.byt b)
 | .float b _=>some (.flt b)
 | .ref a=>some (.ref a)
 | .type n=>some (.ty n)
 |_=>none
theorem RelV.abs {x:V} {u:Value} (r:RelV x u) (n:ntok x=true):rp u=some x:=by
 cases x with
 |non=>cases r;rfl
 |bl _=>cases r;rfl
 |int _=>obtain ⟨t,rfl⟩:=r;rfl
 |str _=>obtain ⟨t,rfl⟩:=r;rfl
 |byt _=>obtain ⟨t,rfl⟩:=r;rfl
 |flt _=>obtain ⟨t,rfl⟩:=r;rfl
 |ref _=>cases r;rfl
 |ty _=>cases r;rfl
 |tok _=>cases n
theorem RelV.inj {x y:V} {u:Value} (r:RelV x u) (q:RelV y u) (n:ntok x=true) (m:ntok y=true):x=y:=Option.some.inj ((r.abs n).symm.trans (q.abs m))
theorem Vals.inj: ∀{xs ys:List V} {us:List Value},Vals xs us→Vals ys us→(∀x∈xs,ntok x=true)→(∀y∈ys,ntok y=true)→xs=ys
 |_,_,_,.nil,.nil,_,_=>rfl
 |_,_,_,.cons r t,.cons r' t',n,m=>by rw [r.inj r' (n _ (.head _)) (m _ (.head _)),Vals.inj t t' (fun x h=>n x (.tail _ h)) (fun x h=>m x (.tail _ h))]
section
variable {X:Cx} {pins:List (Addr×Obj)} {σ:St} {H:Hp} {s:Shared} {a:Addr} {xs ys:List V}
theorem bP.of {K:PySem.W.Frag} (h:H a=some (.lst xs)):bP K H a xs:= .inl (.inl h)
theorem c2.of {K:PySem.W.Frag} (h:H a=some (.tup xs)):c2 K H a xs:= .inl (.inl h)
theorem Inv.list (I:Inv X pins σ H s) (h:bP X.K H a xs): ∃its:List Value,Vals xs its∧PlainL s.heap a its.toArray∧xs.length≤sizeLine:=by
 rcases h with h|⟨o,its,n,hk,hc,hd,hs,hz,r,_⟩
 ·
  obtain ⟨z,its,n,r,e⟩:=h.ok I.hok
  exact ⟨its,r,⟨_,n,e,rfl,rfl,rfl⟩,z⟩
 ·
  refine ⟨its.toList,r,⟨o,n,I.dh a o hk,hc,hd,by simpa using hs⟩,?_⟩
  have e:=r.length
  simp only [Array.length_toList] at e
  omega
theorem Inv.tuple (I:Inv X pins σ H s) (h:c2 X.K H a xs): ∃its:List Value,Vals xs its∧IsTup s.heap a its.toArray∧xs.length≤sizeLine:=by
 rcases h with h|⟨o,its,n,hk,hc,hs,hz,r,_⟩
 ·
  obtain ⟨z,its,r,p⟩:=h.ok I.hok
  exact ⟨its,r,p,z⟩
 ·
  refine ⟨its.toList,r,⟨o,I.dh a o hk,hc,n,by simpa using hs⟩,?_⟩
  have e:=r.length
  simp only [Array.length_toList] at e
  omega
theorem Inv.gr (I:Inv X pins σ H s) (h:bP X.K H a xs) (h':bP X.K H a ys):xs=ys:=by
 rcases h with h|⟨o,its,n,hk,p1⟩
 ·
  rcases h' with h'|⟨o',its',n',hk',p2⟩
  ·exact lS h h'
  ·exact (iA h (I.bs _ _ (I.ok.mod.kin _ _ hk')).2).elim
 ·
  rcases h' with h'|⟨o',its',n',hk',p2⟩
  ·exact (iA h' (I.bs _ _ (I.ok.mod.kin _ _ hk)).2).elim
  ·
   rw [hk] at hk';cases hk'
   obtain ⟨_,_,d,_,r,n1⟩:=p1
   obtain ⟨_,_,d',_,r',n2⟩:=p2
   rw [d] at d';injection d' with d1 _
   subst d1
   exact r.inj r' n1 n2
theorem Inv.eW (I:Inv X pins σ H s) (h:c2 X.K H a xs) (h':c2 X.K H a ys):xs=ys:=by
 rcases h with h|⟨o,its,n,hk,p1⟩
 ·
  rcases h' with h'|⟨o',its',n',hk',p2⟩
  ·exact lR h h'
  ·exact (iA h (I.bs _ _ (I.ok.mod.kin _ _ hk')).2).elim
 ·
  rcases h' with h'|⟨o',its',n',hk',p2⟩
  ·exact (iA h' (I.bs _ _ (I.ok.mod.kin _ _ hk)).2).elim
  ·
   rw [hk] at hk';cases hk'
   obtain ⟨_,d,_,r,n1⟩:=p1
   obtain ⟨_,d',_,r',n2⟩:=p2
   rw [d] at d';injection d' with d1 _
   subst d1
   exact r.inj r' n1 n2
end
noncomputable abbrev Cx.wish (X:Cx) (E:Value→Shared→Prop):Cx:={X with xe:=E}
noncomputable abbrev Cx.nox (X:Cx):Cx:=X.wish fun _ _=>False
theorem Cx.Ok.wish {X:Cx} (ok:X.Ok) (E:Value→Shared→Prop):(X.wish E).Ok:=
 ⟨ok.mod,ok.kind,ok.glob,ok.blt,ok.above,ok.inj,ok.has,ok.cab,ok.hd,ok.frames,ok.stk,ok.exf,ok.bs,ok.bsz,ok.noex,ok.exfs,ok.funs,ok.frf⟩
theorem Cx.Ok.unwish {X:Cx} {E:Value→Shared→Prop} (ok:(X.wish E).Ok):X.Ok:=
 ⟨ok.mod,ok.kind,ok.glob,ok.blt,ok.above,ok.inj,ok.has,ok.cab,ok.hd,ok.frames,ok.stk,ok.exf,ok.bs,ok.bsz,ok.noex,ok.exfs,ok.funs,ok.frf⟩
section
variable {X:Cx} {pins:List (Addr×Obj)} {σ:St} {H:Hp} {s:Shared} {E:Value→Shared→Prop}
theorem Inv.wish (I:Inv X pins σ H s) (E:Value→Shared→Prop):Inv (X.wish E) pins σ H s:=⟨I.ok.wish E,I.os,I.bare,I.base,I.loc,I.cell,I.free,I.b2,I.pin,I.hok,I.len⟩
theorem Inv.unwish (I:Inv (X.wish E) pins σ H s):Inv X pins σ H s:=⟨I.ok.unwish,I.os,I.bare,I.base,I.loc,I.cell,I.free,I.b2,I.pin,I.hok,I.len⟩
theorem SP.unwish {D:Ends} {f:Flow} {s':Shared} (h:SP (X.wish E) pins D f s'):SP X pins D f s':=by
 cases f with
 |next=>obtain ⟨σ',H',I,q⟩:=h;exact ⟨σ',H',I.unwish,q⟩
 |brk=>obtain ⟨σ',H',I,q⟩:=h;exact ⟨σ',H',I.unwish,q⟩
 |cont=>obtain ⟨σ',H',I,q⟩:=h;exact ⟨σ',H',I.unwish,q⟩
 |ret u=>obtain ⟨v,σ',H',I,r,q⟩:=h;exact ⟨v,σ',H',I.unwish,r,q⟩
theorem PT.nox {e:Expr} {t:TT} (h:PT X.nox e t):PT X e t:=fun pins s σ H Q I hw=>
 wpAny_mono (h pins s σ H Q (I.wish _) hw) (fun _ _ ⟨H',I',q⟩=>⟨H',I'.unwish,q⟩) fun _ _ z=>False.elim z
theorem eI.nox {st:List Stmt} {t:TS} (h:eI X.nox st t):eI X st t:=fun pins s σ H D I hw=>
 wpAny_mono (h pins s σ H D (I.wish _) hw) (fun _ _ q=>q.unwish) fun _ _ z=>False.elim z
end
section
variable {X:Cx} {st:Stmt} {rest:List Stmt} {t u:TS} {e:Expr} {te:TE} {pos:Pos}
def nj:TS:=fun D σ H=>D.nx σ H
def nT (t u:TS):TS:=fun D σ H=>t {D with nx:=u D} σ H
theorem aZ:eI X [] nj:=fun _ _ σ H _ I h=>wpAny_execs_nil ⟨σ,H,I,h⟩
theorem ao (h1:PS X st t) (h2:eI X rest u):eI X (st::rest) (nT t u):=by
 intro pins s σ H D I h
 refine wpAny_execs_cons (thn (h1 pins s σ H {D with nx:=u D} I h) fun f s1 q=>?_)
 cases f with
 |next=>
  obtain ⟨σ',H',I',q⟩:=q
  exact h2 pins s1 σ' H' D I' q
 |ret v=>exact q
 |brk=>exact q
 |cont=>exact q
theorem ag (h1:PS X st t):eI X [st] t:=by
 intro pins s σ H D I h
 refine wpAny_execs_cons (thn (h1 pins s σ H D I h) fun f s1 q=>?_)
 cases f with
 |next=>exact wpAny_execs_nil q
 |ret v=>exact q
 |brk=>exact q
 |cont=>exact q
def nY:TS:=fun D σ H=>D.bk σ H
def p8:TS:=fun D σ H=>D.ct σ H
theorem Inv.quiet {pins:List (Addr×Obj)} {σ:St} {H:Hp} {s:Shared} (I:Inv X pins σ H s):interactive X.env=false:=by simp [interactive,I.ok.kind]
def ir (te:TE):TS:=fun D σ H=>te σ H fun _ H1=>D.nx σ H1
theorem mu (he:PE X e te) (hs:swapsWith e none pos.line X.env=pure false:=by rfl):PS X (.Expr e pos) (ir te):=by
 intro pins s σ H D I h
 exact wpAny_Expr_any (thn (he pins s σ H _ I h) fun v s1 ⟨x,H1,I1,r1,q1⟩=>⟨σ,H1,I1,q1⟩) I.quiet hs
def nU (te:TE):TS:=fun D σ H=>te σ H D.rt
theorem aQ (he:PE X e te):PS X (.Return (some e) pos) (nU te):=by
 intro pins s σ H D I h
 exact wpAny_Return_some (thn (he pins s σ H _ I h) fun v s1 ⟨x,H1,I1,r1,q1⟩=>⟨x,σ,H1,I1,r1,q1⟩)
def pY:TS:=fun D _ H=>D.rt .non H
def p6 (c:TT) (t u:TS):TS:=fun D σ H=>c σ H fun b H1=>if b=true then t D σ H1 else u D σ H1
theorem bA {c:Expr} {a b:List Stmt} {tc:TT} (hc:PT X c tc) (ha:eI X a t) (hb:eI X b u):PS X (.If c a b pos) (p6 tc t u):=by
 intro pins s σ H D I h
 refine wpAny_If (thn (hc pins s σ H _ I h) fun d s1 ⟨H1,I1,q1⟩=>?_)
 cases d with
 |true=>exact ha pins s1 σ H1 D I1 q1
 |false=>exact hb pins s1 σ H1 D I1 q1
end
noncomputable abbrev TG:=V→St→Hp→(St→Hp→Prop)→Prop
noncomputable abbrev lx:=List V→St→Hp→(St→Hp→Prop)→Prop
def PG (X:Cx) (target:Expr) (t:TG):Prop:=
 ∀(pins:List (Addr×Obj)) (s:Shared) (σ:St) (H:Hp) (v:V) (u:Value) (Q:St→Hp→Prop),Inv X pins σ H s→RelV v u→t v σ H Q→
  wpAny (model X.prog X.w) X.A (assign target X.env u) (fun _ s'=> ∃σ' H',Inv X pins σ' H' s'∧Q σ' H') X.xe s
noncomputable abbrev rz:=V→V→V→Hp→(Hp→Prop)→Prop
section
variable {X:Cx} {pos:Pos}
def ez (i:Nat):TG:=fun v σ H Q=>Q (σ.set i (some v)) H
theorem c5 {i:Nat} {x:Str} (hN:X.N.Nodup) (hi:X.N[i]?=some x) (hx:Loc X.env.scope x) (hf:X.fn x=true∨X.env.scope.names.lookup x=some .local:=by first|exact .inl rfl|exact .inr rfl|assumption):PG X (.Name x pos) (ez i):=by
 intro pins s σ H v u Q I r h
 exact wpAny_assign_Name (cu I hN hi hx r (fun s' I'=>⟨_,H,I',h⟩) hf)
def rm:lx:=fun vs σ H Q=>vs= []∧Q σ H
def qC (t:TG) (u:lx):lx:=fun vs σ H Q=> ∃v r,vs=v::r∧t v σ H fun σ' H'=>u r σ' H' Q
def rk (K:PySem.W.Frag) (n:Nat) (t:lx):TG:=fun v σ H Q=> ∃a xs,v = .ref a∧c2 K H a xs∧xs.length=n∧t xs σ H Q
def rl (to ti:TE) (t:rz):TG:=fun v σ H Q=>to σ H fun o H1=>ti σ H1 fun i H2=>t o i v H2 fun H3=>Q σ H3
def nZ (te:TE) (g:TG):TS:=fun D σ H=>te σ H fun x H1=>g x σ H1 D.nx
theorem oz {i:Nat} {x:Str} {e:Expr} {te:TE} {pos':Pos} (hN:X.N.Nodup) (hi:X.N[i]?=some x) (hx:Loc X.env.scope x) (he:PE X e te) (hs:swapsWith e (some (.Name x pos')) pos.line X.env=pure false:=by rfl) (hf:X.fn x=true∨X.env.scope.names.lookup x=some .local:=by first|exact .inl rfl|exact .inr rfl|assumption):
  PS X (.Assign [.Name x pos'] e pos) (nZ te (ez i)):=by
 intro pins s σ H D I h
 refine wpAny_Assign_Name (thn (he pins s σ H _ I h) fun v s1 ⟨y,H1,I1,r1,q1⟩=>?_) hs
 exact cu I1 hN hi hx r1 (fun s2 I2=>⟨_,H1,I2,q1⟩) hf
end
section
variable {X:Cx} {pos:Pos}
end
structure It where
 go:Nat→Hp→Prop
 yld:Nat→Hp→V→Hp→Prop
 stop:Nat→Hp→Prop
def eJ (X:Cx) (pins:List (Addr×Obj)) (H:Hp) (b:Addr):Prop:=
 H b=none∧b≠X.env.locals∧b ∉ X.fs∧(b∈X.ex∨X.s₀.heap.objs.size≤b)∧(∀x c,X.env.cells.lookup x=some c→c≠b)∧∀p∈X.pn++pins,p.1≠b
theorem Inv.hX {X:Cx} {pins:List (Addr×Obj)} {σ:St} {H H':Hp} {s:Shared} {b:Addr} (I:Inv X pins σ H s) (hb:s.heap.objs.size≤b) (hn:H' b=none):eJ X pins H' b:=by
 refine ⟨hn,Nat.ne_of_gt (Nat.lt_of_lt_of_le I.lt hb),I.nofs hb,.inr (Nat.le_trans I.sz hb),fun x c e z=>?_,fun p hp z=>?_⟩
 ·
  obtain ⟨v,q⟩:=I.cell x c e
  exact absurd (Nat.lt_of_lt_of_le q.lt (by rw [z];exact hb)) (Nat.lt_irrefl _)
 ·exact absurd (Nat.lt_of_lt_of_le (Heap.lt_size (I.pin p hp).1) (by rw [z];exact hb)) (Nat.lt_irrefl _)
structure Turn (P:Program) (w:World) (K:PySem.W.Frag) (tg:Expr) (J:It) (fp:List Addr) (it:Addr) (tn:Nat→Heap→Prop):Prop where
 mem:it∈fp
 obj: ∀i h,tn i h→∀b∈fp,∃o,h.get? b=some o∧∀v,o.data≠ .cell v
 keep: ∀i h h',tn i h→(∀b∈fp,∀o,h.get? b=some o→h'.get? b=some o)→tn i h'
 item: ∀(X:Cx),X.prog=P→X.w=w→X.K=K→X.calm=true→∀(i:Nat) (pins:List (Addr×Obj)) (s:Shared) (σ:St) (H:Hp) (E:Value→Shared→Prop),Inv X pins σ H s→(∀b∈fp,eJ X pins H b)→tn i s.heap→J.go i H→
  wpAny (model P w) X.A (pyNext (.ref it)) (fun r s1=> ∃u,r=some u∧
   wpAny (model P w) X.A (letOwnedTupleGo tg (.ref it) u) (fun _ s2=> ∃x H',Inv X pins σ H' s2∧RelV x u∧J.yld i H x H'∧tn (i+1) s2.heap∧∀b∈fp,H' b=none) E s1) E s
 done: ∀(X:Cx),X.prog=P→X.w=w→X.K=K→X.calm=true→∀(i:Nat) (pins:List (Addr×Obj)) (s:Shared) (σ:St) (H:Hp) (E:Value→Shared→Prop),Inv X pins σ H s→(∀b∈fp,eJ X pins H b)→tn i s.heap→J.stop i H→
  wpAny (model P w) X.A (pyNext (.ref it)) (fun r s1=>r=none∧Inv X pins σ H s1) E s
 self: ∀(A:Around) (i:Nat) (s:Shared) (Q:Value→Shared→Prop) (E:Value→Shared→Prop),tn i s.heap→Q (.ref it) s→wpAny (model P w) A (pyIter (.ref it)) Q E s
noncomputable abbrev TI:=St→Hp→(It→Hp→Prop)→Prop
def rA (X:Cx) (pins:List (Addr×Obj)) (σ:St) (tg:Expr) (R:It→Hp→Prop) (itv:Value) (s2:Shared):Prop:=
 ∃(it:Addr) (fp:List Addr) (tn:Nat→Heap→Prop) (J:It) (H':Hp),itv = .ref it∧Inv X pins σ H' s2∧Turn X.prog X.w X.K tg J fp it tn∧tn 0 s2.heap∧(∀b∈fp,eJ X pins H' b)∧R J H'
def PI (X:Cx) (tg iter:Expr) (wi:TI):Prop:=
 ∀(pins:List (Addr×Obj)) (s:Shared) (σ:St) (H:Hp) (R:It→Hp→Prop),Inv X pins σ H s→wi σ H R→
  wpAny (model X.prog X.w) X.A (eval iter X.env) (fun v s1=>wpAny (model X.prog X.w) X.A (pyIter v) (rA X pins σ tg R) X.xe s1) X.xe s
theorem gv {M:Model} {A:Around} {E:Value→Shared→Prop} {s:Shared} {tg:Expr} {it:Addr} {u:Value} {o:Obj} {n:String} {vs:Array Value} {Q:Unit→Shared→Prop} (ho:s.heap.get? it=some o) (hc:o.cls = .type n) (hd:o.data = .fields vs)
    (hn: ["enumerate","zip","dict_itemiterator","dict_reverseitemiterator","odict_iterator","itertools.zip_longest","itertools.pairwise"].contains n=false) (hQ:Q () s):wpAny M A (letOwnedTupleGo tg (.ref it) u) Q E s:=by
  unfold letOwnedTupleGo
  cases tg<;>first
    |exact wpAny_pure hQ
    |(cases u<;>first
        |exact wpAny_pure hQ
        |(
           refine wpAny_bind (wpAny_load ho ?_)
           rw [hc,hd]
           show wpAny M A (if (["enumerate","zip","dict_itemiterator","dict_reverseitemiterator","odict_iterator","itertools.zip_longest","itertools.pairwise"].contains n&&vs[0]? == some (rawInt _))=true then _ else _) Q E s
           rw [if_neg (by intro h;rw [hn,Bool.false_and] at h;cases h)]
           exact wpAny_pure hQ))
noncomputable def qM (K:PySem.W.Frag) (a:Addr):It:=
 ⟨fun i H=> ∃xs x,bP K H a xs∧xs[i]?=some x,fun i H x H'=>H'=H∧∀xs,bP K H a xs→xs[i]?=some x,fun i H=> ∃xs,bP K H a xs∧xs.length≤i⟩
noncomputable def rL (K:PySem.W.Frag) (a:Addr):It:=
 ⟨fun i H=> ∃xs x,c2 K H a xs∧xs[i]?=some x,fun i H x H'=>H'=H∧∀xs,c2 K H a xs→xs[i]?=some x,fun i H=> ∃xs,c2 K H a xs∧xs.length≤i⟩
noncomputable def lD (lo:Int) (n:Nat):It:=⟨fun i _=>i<n,fun i H x H'=>H'=H∧x = .int (lo+i),fun i _=>n≤i⟩
theorem iX {P:Program} {w:World} {K:PySem.W.Frag} {tg:Expr} (a it:Addr):Turn P w K tg (qM K a) [it] it (fun i h=>h.IsListIter it a i) where
 mem:=by simp
 obj:=fun i h st b hb=>by
  have e:b=it:=by simpa using hb
  subst e
  obtain ⟨o,e,c,d⟩:=st
  exact ⟨o,e,fun v z=>by rw [d] at z;cases z⟩
 keep:=fun i h h' st k=>st.at fun o e=>k it (by simp) o e
 item:=by
  intro X hP hw hK hc i pins s σ H E I hf st hg
  subst hP hw hK
  obtain ⟨xs,x,hq,hx⟩:=hg
  obtain ⟨its,rv,p,hz⟩:=I.list hq
  obtain ⟨u,hu,ru⟩:=rv.get hx
  obtain ⟨f0,f1,f2,f3,f4,f5⟩:=hf it (by simp)
  refine wpAny_pyNext_list_item st p.isList (x:=u) (by simpa using hu) fun h' st' sb=>?_
  have I1:Inv X pins σ H {s with heap:=h'}:=I.turned (t':=s.toks) (fun b o hb e=>(sb.2 b hb).trans e) f0 f1 f3 f4 f5
  obtain ⟨o,e,c,d⟩:=id st'
  exact ⟨u,rfl,gv (s:={s with heap:=h'}) e c d (by decide) ⟨x,H,I1,ru,⟨rfl,fun ys hy=>by rw [I.gr hy hq];exact hx⟩,st',fun b hb=>(hf b hb).1⟩⟩
 done:=by
  intro X hP hw hK hc i pins s σ H E I hf st hg
  subst hP hw hK
  obtain ⟨xs,hq,hx⟩:=hg
  obtain ⟨its,rv,p,hz⟩:=I.list hq
  obtain ⟨f0,f1,f2,f3,f4,f5⟩:=hf it (by simp)
  have hl:=rv.length
  exact wpAny_pyNext_list_end (I.ok.hd hc) st p.isList (by simp;omega) fun h' eb=>⟨rfl,I.turned (t':=s.toks) (fun b o hb e=>eb b o hb e) f0 f1 f3 f4 f5⟩
 self:=fun _ _ _ _ _ st h=>wpAny_pyIter_listiter st h
theorem gI {P:Program} {w:World} {K:PySem.W.Frag} {tg:Expr} (a it:Addr):Turn P w K tg (rL K a) [it] it (fun i h=>h.IsTupleIter it a i) where
 mem:=by simp
 obj:=fun i h st b hb=>by
  have e:b=it:=by simpa using hb
  subst e
  obtain ⟨o,e,c,d⟩:=st
  exact ⟨o,e,fun v z=>by rw [d] at z;cases z⟩
 keep:=fun i h h' st k=>st.at fun o e=>k it (by simp) o e
 item:=by
  intro X hP hw hK hc i pins s σ H E I hf st hg
  subst hP hw hK
  obtain ⟨xs,x,hq,hx⟩:=hg
  obtain ⟨its,rv,p,hz⟩:=I.tuple hq
  obtain ⟨u,hu,ru⟩:=rv.get hx
  obtain ⟨f0,f1,f2,f3,f4,f5⟩:=hf it (by simp)
  refine wpAny_pyNext_tuple_item st (show s.heap.IsTuple a its.toArray from p) (x:=u) (by simpa using hu) fun h' st' sb=>?_
  have I1:Inv X pins σ H {s with heap:=h'}:=I.turned (t':=s.toks) (fun b o hb e=>(sb.2 b hb).trans e) f0 f1 f3 f4 f5
  obtain ⟨o,e,c,d⟩:=id st'
  exact ⟨u,rfl,gv (s:={s with heap:=h'}) e c d (by decide) ⟨x,H,I1,ru,⟨rfl,fun ys hy=>by rw [I.eW hy hq];exact hx⟩,st',fun b hb=>(hf b hb).1⟩⟩
 done:=by
  intro X hP hw hK hc i pins s σ H E I hf st hg
  subst hP hw hK
  obtain ⟨xs,hq,hx⟩:=hg
  obtain ⟨its,rv,p,hz⟩:=I.tuple hq
  obtain ⟨f0,f1,f2,f3,f4,f5⟩:=hf it (by simp)
  have hl:=rv.length
  exact wpAny_pyNext_tuple_end (I.ok.hd hc) st (show s.heap.IsTuple a its.toArray from p) (by simp;omega) fun h' eb=>⟨rfl,I.turned (t':=s.toks) (fun b o hb e=>eb b o hb e) f0 f1 f3 f4 f5⟩
 self:=fun _ _ _ _ _ st h=>wpAny_pyIter_tupleiter st h
theorem gJ {P:Program} {w:World} {K:PySem.W.Frag} {tg:Expr} (it:Addr) (lo:Int) (n:Nat):Turn P w K tg (lD lo n) [it] it (fun i h=>IsRangeIter h it (lo+(i:Nat)*1) ((n:Int) - (i:Nat)) 1) where
 mem:=by simp
 obj:=fun i h st b hb=>by
  have e:b=it:=by simpa using hb
  subst e
  exact ⟨_,st,fun v z=>by
   have z':Data.fields _=Data.cell v:=z
   cases z'⟩
 keep:=fun i h h' st k=>k it (by simp) _ st
 item:=by
  intro X hP hw hK hc i pins s σ H E I hf st hg
  subst hP hw hK
  obtain ⟨f0,f1,f2,f3,f4,f5⟩:=hf it (by simp)
  have W:=Walks.range (prog:=X.prog) (w:=X.w) (I.ok.hd hc) it lo 1 n
  refine W.item i s _ _ hg st fun v h' tk hv st' kk=>?_
  obtain ⟨t,rfl⟩:=hv
  have I1:Inv X pins σ H {s with heap:=h',toks:=tk}:=I.turned (fun b o hb e=>kk b o (by simpa using hb) e) f0 f1 f3 f4 f5
  refine ⟨_,rfl,gv (s:={s with heap:=h',toks:=tk}) (n:="range_iterator") st' rfl rfl (by decide) ⟨.int (lo+i),H,I1,⟨t,?_⟩,⟨rfl,rfl⟩,st',fun b hb=>(hf b hb).1⟩⟩
  rw [Int.mul_one]
 done:=by
  intro X hP hw hK hc i pins s σ H E I hf st hg
  subst hP hw hK
  obtain ⟨f0,f1,f2,f3,f4,f5⟩:=hf it (by simp)
  exact wpAny_pyNext_range_end (I.ok.hd hc) st (by have:n≤i:=hg;omega) fun h' eb=>⟨rfl,I.turned (t':=s.toks) (fun b o hb e=>eb b o hb e) f0 f1 f3 f4 f5⟩
 self:=fun _ _ _ _ _ st h=>wpAny_pyIter_rangeiter st h
section
variable {X:Cx} {tg:Expr}
theorem j0 {pins:List (Addr×Obj)} {σ:St} {H:Hp} {s:Shared} {R:It→Hp→Prop} {E:Value→Shared→Prop} {lo hi:Int} {t u v:Tok} {tk:Nat} (I:Inv X pins σ H s) (h1 : -(2 ^ 62)≤lo) (h2:lo<2 ^ 62) (h3 : -(2 ^ 62)≤hi) (h4:hi<2 ^ 62)
  (q:R (lD lo (hi - lo).toNat) H):wpAny (model X.prog X.w) X.A (pyIter (.ref s.heap.objs.size)) (rA X pins σ tg R) E {s with heap:=s.heap.push {cls:= .type "range",data:= .fields #[.int lo t,.int hi u,.int 1 v]},toks:=tk}:=by
 refine wpAny_pyIter_range (IsRange.new ..) (small_one h1 h2 h3 h4) ?_
 have I1:Inv X pins σ H {s with heap:=s.heap.push {cls:= .type "range",data:= .fields #[.int lo t,.int hi u,.int 1 v]},toks:=tk}:=I.kept fun b o e=>Heap.get?_push_of_some _ e
 refine ⟨(s.heap.push {cls:= .type "range",data:= .fields #[.int lo t,.int hi u,.int 1 v]}).objs.size,[(s.heap.push {cls:= .type "range",data:= .fields #[.int lo t,.int hi u,.int 1 v]}).objs.size],_,_,H,rfl,
  I1.kept (t':=tk) fun b o e=>Heap.get?_push_of_some _ e,gJ _ lo (hi - lo).toNat,?_,fun b hb=>?_,q⟩
 ·
  have e1:lo+((0:Nat):Int)*1=lo:=by simp
  have e2:(((hi - lo).toNat:Nat):Int) - ((0:Nat):Int)=Builtin.Range.rangeSize lo hi 1:=by rw [rangeSize_one];split<;>omega
  show IsRangeIter _ _ (lo+((0:Nat):Int)*1) ((((hi - lo).toNat:Nat):Int) - ((0:Nat):Int)) 1
  rw [e1,e2]
  exact Heap.get?_push_size _ rfl
 ·
  have e:b=(s.heap.push {cls:= .type "range",data:= .fields #[.int lo t,.int hi u,.int 1 v]}).objs.size:=by simpa using hb
  subst e
  exact I1.hX (Nat.le_refl _) (I1.hok.fresh (Nat.le_refl _))
def jQ (wi:TI) (g:TG) (tb:TS):TS:=fun D σ H=>wi σ H fun J H1=> ∃W:Nat→Nat→St→Hp→Prop,(∃m,W 0 m σ H1)∧∀i m σ H,W i m σ H→
 (J.stop i H∧D.nx σ H)∨(J.go i H∧∃N:St→Hp→Prop,(∀σ' H',N σ' H'→∃m',m'<m∧W (i+1) m' σ' H')∧∀x H',J.yld i H x H'→g x σ H' fun σ2 H2=>tb {D with nx:=N,ct:=N,bk:=D.nx} σ2 H2)
noncomputable def ef (fp:List Addr) (h:Heap):List (Addr×Obj):=fp.filterMap fun b=>(h.get? b).map fun o=>(b,o)
theorem cF {fp:List Addr} {h:Heap} {b:Addr} {o:Obj} (hb:b∈fp) (e:h.get? b=some o):(b,o)∈ef fp h:=List.mem_filterMap.mpr ⟨b,hb,by rw [e];rfl⟩
theorem jv {fp:List Addr} {h:Heap} {p:Addr×Obj} (hp:p∈ef fp h):p.1∈fp∧h.get? p.1=some p.2:=by
 obtain ⟨b,hb,e⟩:=List.mem_filterMap.mp hp
 cases q:h.get? b with
 |none=>rw [q] at e;cases e
 |some o=>
  rw [q] at e
  have e':(b,o)=p:=Option.some.inj e
  subst e'
  exact ⟨hb,q⟩
theorem Inv.pinned {pins:List (Addr×Obj)} {σ:St} {H:Hp} {s:Shared} {fp:List Addr} (I:Inv X pins σ H s) (hf: ∀b∈fp,eJ X pins H b) (ho: ∀b∈fp,∃o,s.heap.get? b=some o∧∀v,o.data≠ .cell v):Inv X (pins++ef fp s.heap) σ H s:=
 I.d2 fun p hp=>(List.mem_append.mp hp).elim (fun z=>I.pin p (List.mem_append_right _ z)) fun z=>by
  obtain ⟨hb,e⟩:=jv z
  obtain ⟨f0,f1,f2,_⟩:=hf p.1 hb
  obtain ⟨o,e',d⟩:=ho p.1 hb
  rw [e] at e';cases e'
  exact ⟨e,f0,f1,f2,d⟩
theorem Inv.unpinned {pins pl:List (Addr×Obj)} {σ:St} {H:Hp} {s:Shared} (I:Inv X (pins++pl) σ H s):Inv X pins σ H s:=I.d2 fun p hp=>I.pin p (List.mem_append_right _ (List.mem_append_left _ hp))
theorem g4 {iter:Expr} {body:List Stmt} {wi:TI} {g:TG} {tb:TS} {pos:Pos} (hp:PassesOwn (model X.prog X.w) X.A X.env X.xe) (hc:X.calm=true) (hi:PI X tg iter wi) (hg:PG X tg g) (hb:eI X body tb)
  (hs: ∀x,foldedSetIterable iter X.env x=pure x:=by intro _;rfl):PS X (.For tg iter body [] pos) (jQ wi g tb):=by
 intro pins s σ H D I h
 refine wpAny_For (thn (hi pins s σ H _ I h) fun v s1 h1=>thn h1 fun itv s2 h2=>?_) hs
 obtain ⟨it,fp,tn,J,H2,e,I2,T,st2,f2,W,⟨m0,w0⟩,turn⟩:=h2
 subst e

 have stat: ∀{H':Hp},(∀b∈fp,H' b=none)→∀b∈fp,eJ X pins H' b:=fun hn b hb=>⟨hn b hb,(f2 b hb).2⟩
 refine codeAny_forLoop_any (fun n s'=> ∃i σ' H',Inv X pins σ' H' s'∧tn i s'.heap∧(∀b∈fp,H' b=none)∧W i n σ' H') ?_ m0 ⟨0,σ,H2,I2,st2,fun b hb=>(f2 b hb).1,w0⟩
 rintro n s3 ⟨i,σ3,H3,I3,st3,fr3,w3⟩
 rcases turn i n σ3 H3 w3 with ⟨stop,qn⟩|⟨go,N,hN,step⟩
 ·
  refine wpAny_passesOwn hp (thn (T.done X rfl rfl rfl hc i pins s3 σ3 H3 X.xe I3 (stat fr3) st3 stop) fun r s4 ⟨hr,I4⟩=>?_)
  subst hr
  exact wpAny_execs_nil ⟨σ3,H3,I4,qn⟩
 ·
  refine wpAny_passesOwn hp (thn (T.item X rfl rfl rfl hc i pins s3 σ3 H3 X.xe I3 (stat fr3) st3 go) fun r s4 ⟨u,hr,h4⟩=>?_)
  subst hr
  refine wpAny_passesOwn hp (thn h4 fun _ s5 ⟨x,H5,I5,r5,y5,st5,fr5⟩=>?_)
  have I5':=I5.pinned (stat fr5) (T.obj _ _ st5)
  refine wpAny_passesOwn hp (thn (hg _ s5 σ3 H5 x u _ I5' r5 (step x H5 y5)) fun _ s6 ⟨σ6,H6,I6,q6⟩=>?_)
  refine wpAny_passesOwn hp (thn (hb _ s6 σ6 H6 _ I6 q6) fun f s7 q7=>?_)
  have again: ∀{σ7:St} {H7:Hp},Inv X (pins++ef fp s5.heap) σ7 H7 s7→N σ7 H7→∃m,m<n∧∃i σ' H',Inv X pins σ' H' s7∧tn i s7.heap∧(∀b∈fp,H' b=none)∧W i m σ' H':=fun {σ7 H7} I7 n7=>by
   obtain ⟨m',hm,w7⟩:=hN σ7 H7 n7
   refine ⟨m',hm,i+1,σ7,H7,I7.unpinned,T.keep _ _ _ st5 fun b hb o e=>(I7.pin (b,o) (List.mem_append_right _ (List.mem_append_right _ (cF hb e)))).1,fun b hb=>?_,w7⟩
   obtain ⟨o,e,d⟩:=T.obj _ _ st5 b hb
   exact (I7.pin (b,o) (List.mem_append_right _ (List.mem_append_right _ (cF hb e)))).2.1
  cases f with
  |next=>obtain ⟨σ7,H7,I7,n7⟩:=q7;exact again I7 n7
  |cont=>obtain ⟨σ7,H7,I7,n7⟩:=q7;exact again I7 n7
  |brk=>obtain ⟨σ7,H7,I7,q7⟩:=q7;exact ⟨σ7,H7,I7.unpinned,q7⟩
  |ret v=>obtain ⟨x7,σ7,H7,I7,r7,q7⟩:=q7;exact ⟨x7,σ7,H7,I7.unpinned,r7,q7⟩
end
theorem kU {K:PySem.W.Frag} {a:Addr} {xs:List V} {g:TG} {tb:TS} {D:Ends} {σ:St} {H:Hp} (Pv:Nat→St→Hp→Prop) (h0:Pv 0 σ H) (hl: ∀i σ H,i≤xs.length→Pv i σ H→bP K H a xs)
  (hs: ∀i x σ H,xs[i]?=some x→Pv i σ H→g x σ H fun σ2 H2=>tb {D with nx:=Pv (i+1),ct:=Pv (i+1),bk:=D.nx} σ2 H2) (hd: ∀σ H,Pv xs.length σ H→D.nx σ H):
  ∃W:Nat→Nat→St→Hp→Prop,(∃m,W 0 m σ H)∧∀i m σ H,W i m σ H→
   ((qM K a).stop i H∧D.nx σ H)∨((qM K a).go i H∧∃N:St→Hp→Prop,(∀σ' H',N σ' H'→∃m',m'<m∧W (i+1) m' σ' H')∧∀x H',(qM K a).yld i H x H'→g x σ H' fun σ2 H2=>tb {D with nx:=N,ct:=N,bk:=D.nx} σ2 H2):=by
 refine ⟨fun i m σ H=>m=xs.length - i∧i≤xs.length∧Pv i σ H,⟨xs.length,by simp,Nat.zero_le _,h0⟩,?_⟩
 rintro i m σ H ⟨rfl,hi,p⟩
 have q:=hl i σ H hi p
 by_cases hlt:i<xs.length
 ·
  refine .inr ⟨⟨xs,xs[i],q,by simp [hlt]⟩,Pv (i+1),fun σ' H' p'=>⟨xs.length - (i+1),by omega,rfl,hlt,p'⟩,fun x H' y=>?_⟩
  obtain ⟨e,y⟩:=y
  subst e
  exact hs i x σ _ (y xs q) p
 ·
  have e:i=xs.length:=by omega
  subst e
  exact .inl ⟨⟨xs,q,Nat.le_refl _⟩,hd σ H p⟩
theorem jF {lo:Int} {n:Nat} {g:TG} {tb:TS} {D:Ends} {σ:St} {H:Hp} (Pv:Nat→St→Hp→Prop) (h0:Pv 0 σ H)
  (hs: ∀i σ H,i<n→Pv i σ H→g (.int (lo+i)) σ H fun σ2 H2=>tb {D with nx:=Pv (i+1),ct:=Pv (i+1),bk:=D.nx} σ2 H2) (hd: ∀σ H,Pv n σ H→D.nx σ H):
  ∃W:Nat→Nat→St→Hp→Prop,(∃m,W 0 m σ H)∧∀i m σ H,W i m σ H→
   ((lD lo n).stop i H∧D.nx σ H)∨((lD lo n).go i H∧∃N:St→Hp→Prop,(∀σ' H',N σ' H'→∃m',m'<m∧W (i+1) m' σ' H')∧∀x H',(lD lo n).yld i H x H'→g x σ H' fun σ2 H2=>tb {D with nx:=N,ct:=N,bk:=D.nx} σ2 H2):=by
 refine ⟨fun i m σ H=>m=n - i∧i≤n∧Pv i σ H,⟨n,by simp,Nat.zero_le _,h0⟩,?_⟩
 rintro i m σ H ⟨rfl,hi,p⟩
 by_cases hlt:i<n
 ·
  refine .inr ⟨hlt,Pv (i+1),fun σ' H' p'=>⟨n - (i+1),by omega,rfl,hlt,p'⟩,fun x H' y=>?_⟩
  obtain ⟨e,y⟩:=y
  subst e y
  exact hs i σ _ hlt p
 ·
  have e:i=n:=by omega
  subst e
  exact .inl ⟨Nat.le_refl _,hd σ H p⟩
noncomputable abbrev R2:=V→V→Hp→VK→Prop
def cf (X:Cx) (f:Value→Value→Sem Value) (r:R2):Prop:=
 ∀(pins:List (Addr×Obj)) (s:Shared) (σ:St) (H:Hp) (x y:V) (v u:Value) (Q:VK),Inv X pins σ H s→RelV x v→RelV y u→r x y H Q→
  wpAny (model X.prog X.w) X.A (f v u) (EP X pins σ Q) X.xe s
def rq (X:Cx) (f:Value→Sem Value) (r:V→Hp→VK→Prop):Prop:=
 ∀(pins:List (Addr×Obj)) (s:Shared) (σ:St) (H:Hp) (x:V) (v:Value) (Q:VK),Inv X pins σ H s→RelV x v→r x H Q→
  wpAny (model X.prog X.w) X.A (f v) (EP X pins σ Q) X.xe s
def bK (X:Cx) (f:Value) (r:List V→Hp→VK→Prop):Prop:=
 ∀(pins:List (Addr×Obj)) (s:Shared) (σ:St) (H:Hp) (xs:List V) (us:List Value) (Q:VK),Inv X pins σ H s→Vals xs us→r xs H Q→
  wpAny (model X.prog X.w) X.A (call f us) (EP X pins σ Q) X.xe s
def nV (r:R2) (ta tb:TE):TE:=fun σ H Q=>ta σ H fun x H1=>tb σ H1 fun y H2=>r x y H2 Q
def rE (r:V→Hp→VK→Prop) (ta:TE):TE:=fun σ H Q=>ta σ H fun x H1=>r x H1 Q
def rI (C:Int→Int→Prop) (g:Int→Int→V):R2:=fun x y H Q=> ∃i j,x = .int i∧y = .int j∧C i j∧Q (g i j) H
def mf (g:Int→Int→V):R2:=fun x y H Q=> ∃i j,x = .int i∧y = .int j∧Q (g i j) H
def rU (g:Int→V):V→Hp→VK→Prop:=fun x H Q=> ∃i,x = .int i∧Q (g i) H
section
variable {X:Cx} {a b c:Expr} {ta tb tc:TE} {pos:Pos}
theorem pN (ha:PE X a ta) (hb:PE X b tb) {pins:List (Addr×Obj)} {s:Shared} {σ:St} {H:Hp} {R:V→V→Hp→Prop} (I:Inv X pins σ H s)
  (h:ta σ H fun x H1=>tb σ H1 fun y H2=>R x y H2) {Q:Value→Shared→Prop} {f:Value→Value→Sem Value}
  (hf: ∀v u s2 x y H2,Inv X pins σ H2 s2→RelV x v→RelV y u→R x y H2→wpAny (model X.prog X.w) X.A (f v u) Q X.xe s2):
  wpAny (model X.prog X.w) X.A (eval a X.env) (fun v s₁=>wpAny (model X.prog X.w) X.A (eval b X.env) (fun u s₂=>wpAny (model X.prog X.w) X.A (f v u) Q X.xe s₂) X.xe s₁) X.xe s:=by
 refine thn (ha pins s σ H _ I h) fun v s1 ⟨x,H1,I1,r1,q1⟩=>?_
 refine thn (hb pins s1 σ H1 _ I1 q1) fun u s2 ⟨y,H2,I2,r2,q2⟩=>?_
 exact hf v u s2 x y H2 I2 r1 r2 q2
theorem ai {op:Operator} {r:R2} (ho:cf X (binaryOp op) r) (ha:PE X a ta) (hb:PE X b tb):PE X (.BinOp a op b pos) (nV r ta tb):=by
 intro pins s σ H Q I h
 exact wpAny_BinOp (pN ha hb I h fun v u s2 x y H2 I2 rx ry q=>ho pins s2 σ H2 x y v u Q I2 rx ry q)
theorem kx {op:UnaryOp} {r:V→Hp→VK→Prop} (ho:rq X (unaryOp op) r) (ha:PE X a ta):PE X (.UnaryOp op a pos) (rE r ta):=by
 intro pins s σ H Q I h
 exact UnaryOp_ (thn (ha pins s σ H _ I h) fun v s1 ⟨x,H1,I1,r1,q1⟩=>ho pins s1 σ H1 x v Q I1 r1 q1)
theorem oR {f:Value→Value→Sem Value} {C:Int→Int→Prop} {g:Int→Int→Int}
  (rule: ∀(i j:Int) (t u:Tok) (s:Shared) (Q:Value→Shared→Prop) (E:Value→Shared→Prop),C i j→Q (.int (g i j) s.toks) {s with toks:=s.toks+1}→wpAny (model X.prog X.w) X.A (f (.int i t) (.int j u)) Q E s):
  cf X f (rI C fun i j=> .int (g i j)):=by
 intro pins s σ H x y v u Q I rx ry h
 obtain ⟨i,j,rfl,rfl,hc,q⟩:=h
 obtain ⟨t,rfl⟩:=rx
 obtain ⟨t',rfl⟩:=ry
 exact rule i j t t' s _ _ hc ⟨.int (g i j),H,I.tok _,⟨_,rfl⟩,q⟩
theorem oQ {f:Value→Value→Sem Value} {g:Int→Int→Int}
  (rule: ∀(i j:Int) (t u:Tok) (s:Shared) (Q:Value→Shared→Prop) (E:Value→Shared→Prop),Q (.int (g i j) s.toks) {s with toks:=s.toks+1}→wpAny (model X.prog X.w) X.A (f (.int i t) (.int j u)) Q E s):
  cf X f (mf fun i j=> .int (g i j)):=by
 intro pins s σ H x y v u Q I rx ry h
 obtain ⟨i,j,rfl,rfl,q⟩:=h
 obtain ⟨t,rfl⟩:=rx
 obtain ⟨t',rfl⟩:=ry
 exact rule i j t t' s _ _ ⟨.int (g i j),H,I.tok _,⟨_,rfl⟩,q⟩
theorem oS {f:Value→Value→Sem Value} {g:Int→Int→Bool}
  (rule: ∀(i j:Int) (t u:Tok) (s:Shared) (Q:Value→Shared→Prop) (E:Value→Shared→Prop),Q (.bool (g i j)) s→wpAny (model X.prog X.w) X.A (f (.int i t) (.int j u)) Q E s):
  cf X f (mf fun i j=> .bl (g i j)):=by
 intro pins s σ H x y v u Q I rx ry h
 obtain ⟨i,j,rfl,rfl,q⟩:=h
 obtain ⟨t,rfl⟩:=rx
 obtain ⟨t',rfl⟩:=ry
 exact rule i j t t' s _ _ ⟨.bl (g i j),H,I,rfl,q⟩
def m8 (i j:Int):Prop:=0<j∧j<1073741824
def m7 (i j:Int):Prop:=(-(2 ^ 64)<i∧i<2 ^ 64)∨(-(2 ^ 64)<j∧j<2 ^ 64)
theorem m7.ok {i j:Int} (h:m7 i j):IntMulOk i j:=by
 rcases h with ⟨h1,h2⟩|⟨h1,h2⟩
 ·exact .of_left (intBits_le_64 h1 h2)
 ·exact .of_right (intBits_le_64 h1 h2)
theorem gH (k:Nat):(0:Int)≤2 ^ k:=by
 rw [two_pow_cast]
 exact Int.natCast_nonneg _
theorem oP:cf X (binaryOp .Add) (mf fun i j=> .int (i+j)):=oQ fun _ _ _ _ _ _ _ q=>add_int q
theorem fH:cf X (binaryOp .Sub) (mf fun i j=> .int (i - j)):=oQ fun _ _ _ _ _ _ _ q=>sub_int q
theorem eh:cf X (binaryOp .Mult) (rI m7 fun i j=> .int (i*j)):=oR fun _ _ _ _ _ _ _ hc q=>mul_int q hc.ok
theorem bM:cf X (binaryOp .FloorDiv) (rI m8 fun i j=> .int (i / j)):=oR fun i j _ _ _ _ _ hc q=>by
 have h1:(0:Int)<j:=hc.1
 have h2:j<1073741824:=hc.2
 exact floordiv_int (by omega) (by rw [Int.fdiv_eq_ediv_of_nonneg i (by omega)];exact q) (.inl (PyProof.noPylong_small (by omega)))
theorem ba:cf X (binaryOp .Mod) (rI (fun _ j=>0<j) fun i j=> .int (i % j)):=oR fun i j _ _ _ _ _ hc q=>by
 have h1:(0:Int)<j:=hc
 exact mod_int' (by omega) (by rw [Int.fmod_eq_emod_of_nonneg i (by omega)];exact q)
theorem kD:cf X (binaryOp .RShift) (rI (fun _ j=>0≤j) fun i j=> .int (i / 2 ^ j.toNat)):=oR fun i j _ _ _ _ _ hc q=>
 rshift_int hc (by rw [Int.fdiv_eq_ediv_of_nonneg i (gH _)];exact q)
theorem oO:cf X (binaryOp .BitAnd) (mf fun i j=> .int (Builtin.bitAnd i j)):=oQ fun _ _ _ _ _ _ _ q=>and_int q
theorem rM {f:Value→Sem Value} {g:Int→Int}
  (rule: ∀(i:Int) (t:Tok) (s:Shared) (Q:Value→Shared→Prop) (E:Value→Shared→Prop),Q (.int (g i) s.toks) {s with toks:=s.toks+1}→wpAny (model X.prog X.w) X.A (f (.int i t)) Q E s):
  rq X f (rU fun i=> .int (g i)):=by
 intro pins s σ H x v Q I rx h
 obtain ⟨i,rfl,q⟩:=h
 obtain ⟨t,rfl⟩:=rx
 exact rule i t s _ _ ⟨.int (g i),H,I.tok _,⟨_,rfl⟩,q⟩
theorem gG:rq X (unaryOp .USub) (rU fun i=> .int (-i)):=rM fun _ _ _ _ _ q=>neg_int q
end
noncomputable def scal:V→V→Bool
 | .non,.non=>true | .non,.int _=>true | .int _,.non=>true | .non,.bl _=>true | .bl _,.non=>true | .non,.str _=>true | .str _,.non=>true
 | .int _,.int _=>true | .bl _,.bl _=>true | .str _,.str _=>true | .byt _,.byt _=>true
 | .int _,.str _=>true | .str _,.int _=>true | .bl _,.str _=>true | .str _,.bl _=>true
 |_,_=>false
def ou:R2:=fun x y H Q=>scal x y=true∧Q (.bl (decide (x=y))) H
def oh:R2:=fun x y H Q=>scal x y=true∧Q (.bl (!decide (x=y))) H
theorem iQ {i j:Int}:decide (V.int i=V.int j)=(i == j):=by
 rw [Bool.eq_iff_iff]
 simp
theorem k9 {i j:Bool}:decide (V.bl i=V.bl j)=(i == j):=by
 rw [Bool.eq_iff_iff]
 simp
theorem iP {i j:Str}:decide (V.str i=V.str j)=(i == j):=by
 rw [Bool.eq_iff_iff]
 simp
theorem iR {i j:Array UInt8}:decide (V.byt i=V.byt j)=(i.toList == j.toList):=by
 rw [Bool.eq_iff_iff]
 cases i
 cases j
 simp
section
variable {X:Cx} {a b c:Expr} {ta tb tc:TE} {pos:Pos}
theorem ax {pins:List (Addr×Obj)} {σ:St} {H:Hp} {s:Shared} {Q:VK} {k k':Bool} (I:Inv X pins σ H s) (q:Q (.bl k) H) (e:k=k'):EP X pins σ Q (.bool k') s:=by
 subst e
 exact ⟨.bl k,H,I,rfl,q⟩
theorem qt:cf X (compareOp .Eq) ou:=by
 intro pins s σ H x y v u Q I rx ry h
 obtain ⟨hs,q⟩:=h
 cases x with
 |non=>
  cases rx
  cases y with
  |non=>cases ry;exact PySem.EqNone.eq_none_none (ax I q (by simp))
  |bl j=>cases ry;exact PySem.EqNone.eq_none_bool (ax I q (by simp))
  |int j=>obtain ⟨t',rfl⟩:=ry;exact PySem.EqNone.eq_none_int (ax I q (by simp))
  |str j=>obtain ⟨t',rfl⟩:=ry;exact PySem.EqNone.eq_none_str (ax I q (by simp))
  |_=>exact absurd (show false=true from hs) Bool.false_ne_true
 |bl i=>
  cases rx
  cases y with
  |non=>cases ry;exact PySem.EqNone.eq_bool_none (ax I q (by simp))
  |bl j=>cases ry;exact eq_bool (ax I q k9)
  |str j=>obtain ⟨t',rfl⟩:=ry;exact PySem.EqMixed.eq_bool_str (ax I q (by simp))
  |_=>exact absurd (show false=true from hs) Bool.false_ne_true
 |int i=>
  obtain ⟨t,rfl⟩:=rx
  cases y with
  |non=>cases ry;exact PySem.EqNone.eq_int_none (ax I q (by simp))
  |int j=>obtain ⟨t',rfl⟩:=ry;exact eq_int (ax I q iQ)
  |str j=>obtain ⟨t',rfl⟩:=ry;exact PySem.EqMixed.eq_int_str (ax I q (by simp))
  |_=>exact absurd (show false=true from hs) Bool.false_ne_true
 |str i=>
  obtain ⟨t,rfl⟩:=rx
  cases y with
  |non=>cases ry;exact PySem.EqNone.eq_str_none (ax I q (by simp))
  |bl j=>cases ry;exact PySem.EqMixed.eq_str_bool (ax I q (by simp))
  |int j=>obtain ⟨t',rfl⟩:=ry;exact PySem.EqMixed.eq_str_int (ax I q (by simp))
  |str j=>obtain ⟨t',rfl⟩:=ry;exact eq_str (ax I q iP)
  |_=>exact absurd (show false=true from hs) Bool.false_ne_true
 |byt i=>
  obtain ⟨t,rfl⟩:=rx
  cases y with
  |byt j=>obtain ⟨t',rfl⟩:=ry;exact PySem.W.eq_bytes (ax I q iR)
  |_=>exact absurd (show false=true from hs) Bool.false_ne_true
 |_=>cases y<;>exact absurd (show false=true from hs) Bool.false_ne_true
theorem qr:cf X (compareOp .NotEq) oh:=by
 intro pins s σ H x y v u Q I rx ry h
 obtain ⟨hs,q⟩:=h
 cases x with
 |non=>
  cases rx
  cases y with
  |non=>cases ry;exact PySem.EqNone.ne_none_none (ax I q (by simp))
  |bl j=>cases ry;exact PySem.EqNone.ne_none_bool (ax I q (by simp))
  |int j=>obtain ⟨t',rfl⟩:=ry;exact PySem.EqNone.ne_none_int (ax I q (by simp))
  |str j=>obtain ⟨t',rfl⟩:=ry;exact PySem.EqNone.ne_none_str (ax I q (by simp))
  |_=>exact absurd (show false=true from hs) Bool.false_ne_true
 |bl i=>
  cases rx
  cases y with
  |non=>cases ry;exact PySem.EqNone.ne_bool_none (ax I q (by simp))
  |bl j=>cases ry;exact ne_bool (ax I q (congrArg not k9))
  |str j=>obtain ⟨t',rfl⟩:=ry;exact PySem.EqMixed.ne_bool_str (ax I q (by simp))
  |_=>exact absurd (show false=true from hs) Bool.false_ne_true
 |int i=>
  obtain ⟨t,rfl⟩:=rx
  cases y with
  |non=>cases ry;exact PySem.EqNone.ne_int_none (ax I q (by simp))
  |int j=>obtain ⟨t',rfl⟩:=ry;exact ne_int (ax I q (congrArg not iQ))
  |str j=>obtain ⟨t',rfl⟩:=ry;exact PySem.EqMixed.ne_int_str (ax I q (by simp))
  |_=>exact absurd (show false=true from hs) Bool.false_ne_true
 |str i=>
  obtain ⟨t,rfl⟩:=rx
  cases y with
  |non=>cases ry;exact PySem.EqNone.ne_str_none (ax I q (by simp))
  |bl j=>cases ry;exact PySem.EqMixed.ne_str_bool (ax I q (by simp))
  |int j=>obtain ⟨t',rfl⟩:=ry;exact PySem.EqMixed.ne_str_int (ax I q (by simp))
  |str j=>obtain ⟨t',rfl⟩:=ry;exact ne_str (ax I q (congrArg not iP))
  |_=>exact absurd (show false=true from hs) Bool.false_ne_true
 |byt i=>
  obtain ⟨t,rfl⟩:=rx
  cases y with
  |byt j=>obtain ⟨t',rfl⟩:=ry;exact PySem.W.ne_bytes (ax I q (congrArg not iR))
  |_=>exact absurd (show false=true from hs) Bool.false_ne_true
 |_=>cases y<;>exact absurd (show false=true from hs) Bool.false_ne_true
theorem kE:cf X (compareOp .Lt) (mf fun i j=> .bl (decide (i<j))):=oS fun _ _ _ _ _ _ _ q=>lt_int q
theorem qs:cf X (compareOp .Gt) (mf fun i j=> .bl (decide (j<i))):=oS fun _ _ _ _ _ _ _ q=>gt_int q
theorem nt:cf X (compareOp .GtE) (mf fun i j=> .bl (decide (j≤i))):=oS fun _ _ _ _ _ _ _ q=>ge_int q
theorem jt:cf X (compareOp .In) (fun x y H Q=> ∃i j,x = .str i∧y = .str j∧Q (.bl (!(Builtin.Str.occurrences j i 0 j.length 1).isEmpty)) H):=by
 intro pins s σ H x y v u Q I rx ry h
 obtain ⟨i,j,rfl,rfl,q⟩:=h
 obtain ⟨t,rfl⟩:=rx
 obtain ⟨t',rfl⟩:=ry
 exact in_str (ax I q rfl)
theorem cf.or {f:Value→Value→Sem Value} {r r':R2} (h:cf X f r) (h':cf X f r'):cf X f (fun x y H Q=>r x y H Q∨r' x y H Q):=by
 intro pins s σ H x y v u Q I rx ry q
 rcases q with q|q
 ·exact h pins s σ H x y v u Q I rx ry q
 ·exact h' pins s σ H x y v u Q I rx ry q
theorem nomark (b:Expr) {op:CmpOp} (h:op≠ .In:=by decide) (h2:op≠ .NotIn:=by decide):behindInMarks op b=false:=by
 have e1:(op == CmpOp.In)=false:=by cases op<;>first|rfl|exact absurd rfl h
 have e2:(op == CmpOp.NotIn)=false:=by cases op<;>first|rfl|exact absurd rfl h2
 cases b<;>simp [behindInMarks,e1,e2]
theorem c6 {op:CmpOp} {r:R2} (ho:cf X (compareOp op) r) (ha:PE X a ta) (hb:PE X b tb) (hm:behindInMarks op b=false):PE X (.Compare a [op] [b] pos) (nV r ta tb):=by
 intro pins s σ H Q I h
 exact wpAny_Compare1 (pN ha hb I h fun v u s2 x y H2 I2 rx ry q=>ho pins s2 σ H2 x y v u Q I2 rx ry q) hm
def ng (t:TE):TT:=fun σ H Q=>t σ H fun x H'=> ∃k,x = .bl k∧Q k H'
theorem aG {op:CmpOp} {r:R2} (ho:cf X (compareOp op) r) (ha:PE X a ta) (hb:PE X b tb) (hm:behindInMarks op b=false):PT X (.Compare a [op] [b] pos) (ng (nV r ta tb)):=by
 intro pins s σ H Q I h
 refine wpAny_isTrue_Compare1 (thn (ha pins s σ H _ I h) fun v s1 ⟨x,H1,I1,r1,q1⟩=>thn (hb pins s1 σ H1 _ I1 q1) fun u s2 ⟨y,H2,I2,r2,q2⟩=>
  thn (ho pins s2 σ H2 x y v u _ I2 r1 r2 q2) fun c s3 ⟨z,H3,I3,r3,k,e,q3⟩=>?_) hm
 subst e
 cases r3
 exact wpAny_truthy_bool ⟨H3,I3,q3⟩
def nX (r r':R2) (ta tb tc:TE):TE:=fun σ H Q=>ta σ H fun x H1=>tb σ H1 fun y H2=>r x y H2 fun z H3=> ∃k,z = .bl k∧
 (if k=true then tc σ H3 fun w' H4=>r' y w' H4 Q else Q (.bl false) H3)
theorem dN:(sizeLine:Nat)<2 ^ 63:=by rw [sizeLine_eq];decide
theorem g9:cf X (binaryOp .Add) (fun x y H Q=> ∃i j,x = .str i∧y = .str j∧i.length+j.length≤sizeLine∧Q (.str (i++j)) H):=by
 intro pins s σ H x y v u Q I rx ry h
 obtain ⟨i,j,rfl,rfl,hz,q⟩:=h
 obtain ⟨t,rfl⟩:=rx
 obtain ⟨t',rfl⟩:=ry
 exact add_str (fun t' tk=>⟨.str (i++j),H,I.tok _,⟨_,rfl⟩,q⟩) hz
theorem vals1 {x:V} {us:List Value} (r:Vals [x] us): ∃u,us= [u]∧RelV x u:=by
 cases r with
 |cons r1 r2=>cases r2;exact ⟨_,rfl,r1⟩
theorem vals2 {x y:V} {us:List Value} (r:Vals [x,y] us): ∃u w',us= [u,w']∧RelV x u∧RelV y w':=by
 cases r with
 |cons r1 r2=>
  cases r2 with
  |cons r3 r4=>cases r4;exact ⟨_,_,rfl,r1,r3⟩
end
structure pO (h:Heap) (x dx C:Addr) (mA:Str→Option Value):Prop where
 obj:h.get? x=some (PySem.W.instObj C dx)
 ns:h.Ns1 dx mA
 ne:dx≠x
theorem e7 {h:Heap} {dx:Addr} {mA:Str→Option Value} (n:h.Ns1 dx mA): ∃od,h.get? dx=some od∧∀name,PySem.W.lookIn name od=some (mA name):=by
 obtain ⟨o,es,ep,ho,hd,hk,_,hm⟩:=n
 refine ⟨o,ho,fun name=>?_⟩
 have e:=hm name
 unfold nsFind findBy at e
 rw [←Array.find?_toList] at e
 unfold PySem.W.lookIn
 rw [hd]
 dsimp only
 split
 ·
  rename_i y q
  rw [q] at e
  exact congrArg some e
 ·
  rename_i q
  rw [q] at e
  have a:es.toList.any (·.refKey)=false:=by
   rw [List.any_eq_false]
   intro y hy
   obtain ⟨z,t,hkey⟩:=hk y (Array.mem_toList_iff.mp hy)
   simp [DictEntry.refKey,hkey]
  have a': ¬es.toList.any (·.refKey)=true:=by rw [a];exact Bool.false_ne_true
  rw [if_neg a']
  exact congrArg some e
theorem pO.look {h:Heap} {x dx C:Addr} {mA:Str→Option Value} (I:pO h x dx C mA): ∃od,PySem.W.InstAt h x (PySem.W.instObj C dx) C (some od)∧∀name,PySem.W.lookIn name od=some (mA name):=
 let ⟨od,ho,hl⟩:=e7 I.ns
 ⟨od,⟨I.obj,rfl,rfl,ho⟩,hl⟩
section
variable {prog:Program} {w:World} {A:Around} {E:Value→Shared→Prop} {s:Shared} {K:PySem.W.Frag} {x dx C f:Addr} {mA:Str→Option Value} {name:Str} {v:Value}
end
theorem ig.some_of {v:V} {o:Option Value} (r:ig (some v) o): ∃u,o=some u∧RelV v u:=by
 cases o with
 |none=>exact (show False from r).elim
 |some u=>exact ⟨u,rfl,r⟩
theorem jD {v:V} {u:Value} (r:RelV v u):PySem.W.handedIn u=true:=by
 cases v with
 |non=>cases (show u=Value.none from r);rfl
 |bl b=>cases (show u=Value.bool b from r);rfl
 |int i=>obtain ⟨t,e⟩:=(show∃t,u=Value.int i t from r);cases e;rfl
 |str x=>obtain ⟨t,e⟩:=(show∃t,u=Value.str x t from r);cases e;rfl
 |byt b=>obtain ⟨t,e⟩:=(show∃t,u=Value.bytes b t from r);cases e;rfl
 |flt b=>obtain ⟨t,e⟩:=(show∃t,u=Value.float b t from r);cases e;rfl
 |ref a=>cases (show u=Value.ref a from r);rfl
 |ty n=>cases (show u=Value.type n from r);rfl
 |tok x=>obtain ⟨t,_,e⟩:=(show∃t,t≠0∧u=Value.str x t from r);cases e;rfl
section
variable {P:Program} {w:World} {H H':Hp} {h h':Heap} {a C dx:Addr} {fs fs':List (Str×V)}
theorem mM (hok:eK P w H h) (e:H a=some (.ins C dx fs)): ∃mA,pO h a dx C mA∧(∀f,ig (fs.lookup f) (mA f))∧PySem.Within mA (fs.map (·.1))∧fs.length≤1000∧H dx=some (.own a):=by
 obtain ⟨d,z,ne,ob,mA,n,r,q⟩:=(show bf P w H h a (.ins C dx fs) from hok a _ e)
 exact ⟨mA,⟨ob,n,ne⟩,r,q,z,d⟩
end
structure rC (K:PySem.W.Frag) (C:Addr):Prop where
 pg:PySem.W.plainGet K C Str.empty=true
 hd:PySem.W.hasDictIn K C=true
 po:PySem.W.plainOver K C=true
 sa:PySem.W.findIn K (.ref C) "__setattr__" = some (some (.builtin "object.__setattr__"))
theorem rC.get {K:PySem.W.Frag} {C:Addr} (c:rC K C) (f:Str):PySem.W.plainGet K C f=true:=c.pg
structure Meth (K:PySem.W.Frag) (C:Addr) (m:Str) (f:Addr):Prop where
 at_:PySem.W.findIn K (.ref C) m=some (some (.ref f))
 fn:PySem.W.isFn K (.ref f)=true
 kp:PySem.W.keepIn K (.ref f)=true
section
variable {X:Cx} {pins:List (Addr×Obj)} {σ:St} {H:Hp} {s:Shared} {a C dx:Addr} {fs:List (Str×V)} {f:Str} {v:V} {A:Around} {E:Value→Shared→Prop}
theorem mY {prog:Program} {w:World} {env:Env} {e:Expr} {f:Str} {pos:Pos} {s:Shared} {Q:Value→Shared→Prop} (hb:attributeBase e f env (eval e env)=eval e env)
  (h:wpAny (model prog w) A (eval e env) (fun o s₁=>wpAny (model prog w) A (getAttr o f true) Q E s₁) E s):wpAny (model prog w) A (eval (.Attribute e f pos) env) Q E s:=
 Attribute_any_ h (by rw [arm_eval_Attribute,hb])
end
section
variable {X:Cx} {o e value:Expr} {f:Str} {pos pos' tpos:Pos} {ta tv:TE}
end
section
variable {X:Cx} {pins:List (Addr×Obj)} {σ:St} {H:Hp} {s:Shared} {A:Around} {E:Value→Shared→Prop} {Q:Value→Shared→Prop} {c:Value} {b:Bool}
inductive dE (K:PySem.W.Frag) (H:Hp):V→Value→Prop where
 |non:dE K H .non (.type "NoneType")
 |bl (x:Bool):dE K H (.bl x) (.type "bool")
 |int (i:Int):dE K H (.int i) (.type "int")
 |str (x:Str):dE K H (.str x) (.type "str")
 |flt (x:UInt64):dE K H (.flt x) (.type "float")
 |lst {a:Addr} {xs:List V} (e:H a=some (.lst xs)):dE K H (.ref a) (.type "list")
 |frz {a:Addr} {o:Obj} {xs:List V} (e:H a=some (.frz o (.lst xs))):dE K H (.ref a) (.type "list")
 |tup {a:Addr} {xs:List V} (e:H a=some (.tup xs)):dE K H (.ref a) (.type "tuple")
 |dK {a:Addr} {kvs:List (Key×V)} (e:H a=some (.dK kvs)):dE K H (.ref a) (.type "dict")
 |dT {a:Addr} {kvs:List (List Key×V)} (e:H a=some (.dT kvs)):dE K H (.ref a) (.type "dict")
 |
   ins {a C dx:Addr} {fs:List (Str×V)} (e:H a=some (.ins C dx fs)) (cl:rC K C) (ha:PySem.W.findIn K (.ref C) "__class__" = some (some (.builtin "object.__class__")))
   (hn:PySem.W.specialIn K (.builtin "object.__class__") "__get__" = some (some (.builtin "getset_descriptor.__get__"))) (htk:PySem.W.takesIn K (.builtin "object.__class__")=some true)
   (hm:PySem.W.mroIn K C (.type "object")=some true):dE K H (.ref a) (.ref C)
theorem jy {x:V} {u t:Value} (I:Inv X pins σ H s) (rx:RelV x u) (ty:dE X.K H x t) (e:PySem.W.kitOne X.K t c=some b) (h: ∀tk,Q (.bool b) {s with toks:=tk}):
  wpAny (model X.prog X.w) A (call (.builtin "isinstance") [u,c]) Q E s:=by
 cases ty with
 |non=>cases (show u=Value.none from rx);exact PySem.W.kia_one PySem.W.kitx_none I.dh True.intro e (fun z=>nomatch z) h
 |bl y=>cases (show u=Value.bool y from rx);exact PySem.W.kia_one PySem.W.kitx_bool I.dh True.intro e (fun z=>nomatch z) h
 |int i=>obtain ⟨t,q⟩:=(show∃t,u=Value.int i t from rx);cases q;exact PySem.W.kia_one PySem.W.kitx_int I.dh True.intro e (fun z=>nomatch z) h
 |str y=>obtain ⟨t,q⟩:=(show∃t,u=Value.str y t from rx);cases q;exact PySem.W.kia_one PySem.W.kitx_str I.dh True.intro e (fun z=>nomatch z) h
 |flt y=>obtain ⟨t,q⟩:=(show∃t,u=Value.float y t from rx);cases q;exact PySem.W.kia_one PySem.W.kitx_float I.dh True.intro e (fun z=>nomatch z) h
 | @lst a xs ea=>
  cases (show u=Value.ref a from rx)
  obtain ⟨_,_,n,_,h1⟩:=(show bf X.prog X.w H s.heap a (.lst xs) from I.hok a _ ea)
  exact PySem.W.kia_one PySem.W.kitx_list I.dh ⟨_,h1,rfl⟩ e (fun z=>nomatch z) h
 | @frz a ob xs ea=>
  cases (show u=Value.ref a from rx)
  obtain ⟨_,_,_,n,_,h1⟩:=(show bf X.prog X.w H s.heap a (.frz ob (.lst xs)) from I.hok a _ ea)
  exact PySem.W.kia_one PySem.W.kitx_list I.dh ⟨_,h1,rfl⟩ e (fun z=>nomatch z) h
 | @tup a xs ea=>
  cases (show u=Value.ref a from rx)
  obtain ⟨_,_,_,p⟩:=(show bf X.prog X.w H s.heap a (.tup xs) from I.hok a _ ea)
  obtain ⟨o,h1,h2,_⟩:=p
  exact PySem.W.kia_one PySem.W.kitx_tuple I.dh ⟨o,h1,h2⟩ e (fun z=>nomatch z) h
 | @dK a kvs ea=>
  cases (show u=Value.ref a from rx)
  obtain ⟨_,_,vs,_,p⟩:=(show bf X.prog X.w H s.heap a (.dK kvs) from I.hok a _ ea)
  obtain ⟨o,es,ep,h1,h2,_⟩:=p
  exact PySem.W.kia_one PySem.W.kitx_dict I.dh ⟨o,h1,h2.1⟩ e (fun z=>nomatch z) h
 | @dT a kvs ea=>
  cases (show u=Value.ref a from rx)
  obtain ⟨_,_,xs,_,o,es,ep,h1,h2,_⟩:=(show bf X.prog X.w H s.heap a (.dT kvs) from I.hok a _ ea)
  exact PySem.W.kia_one PySem.W.kitx_dict I.dh ⟨o,h1,h2.1⟩ e (fun z=>nomatch z) h
 | @ins a C dx fs ea cl ha hn htk hm=>
  cases (show u=Value.ref a from rx)
  obtain ⟨mA,O,_⟩:=mM I.hok ea
  obtain ⟨od,J,_⟩:=O.look
  exact PySem.W.kia_one (PySem.W.kitx_own (cl.get _) cl.hd ha hn htk hm) I.dh J e (fun z=>nomatch z) h
end
structure bL (k:Nat) (A:Around):Prop where
 hd:A.handled=none
 dp:A.depth+3*k+5<recursionLimit
 un:A.units+16*k+200<cLine
theorem bL.mono {j k:Nat} {A:Around} (r:bL k A) (h:j≤k):bL j A:=⟨r.hd,by have:=r.dp;omega,by have:=r.un;omega⟩
theorem bL.deeper {k:Nat} {A:Around} (r:bL (k+1) A) (env:Env):bL k (A.deeper env):=
 ⟨r.hd,by have:=r.dp;show A.depth+1+3*k+5<_;omega,by have:=r.un;show A.units+3+16*k+200<_;omega⟩
theorem hJ {A:Around} {C:Addr} {us:List Value} {kw:List (Str×Value)}:(A.under (.builtin "type.__call__" ⟨.ref C::us,kw⟩)).depth=A.depth+1:=by
 first|rfl|simp [Around.under,Code.weight,Code.isCreation,Code.isGuard,Code.isCaller,Code.frames,Code.isFrame,guardIds]
theorem hG {A:Around} {C:Addr} {us:List Value} {kw:List (Str×Value)}:(A.under (.builtin "type.__call__" ⟨.ref C::us,kw⟩)).units=A.units+1:=by
 first|rfl|simp [Around.under,Code.cUnits,Code.frames,Code.isFrame]
theorem bL.make {k:Nat} {A:Around} (r:bL (k+1) A) (C:Addr) (us:List Value) (kw:List (Str×Value)):bL k (A.under (.builtin "type.__call__" ⟨.ref C::us,kw⟩)):=
 ⟨r.hd,by have:=r.dp;rw [hJ];omega,by have:=r.un;rw [hG];omega⟩
theorem bL.depth {k:Nat} {A:Around} (r:bL k A):A.depth<recursionLimit:=by have:=r.dp;omega
theorem bL.units {k:Nat} {A:Around} (r:bL k A):A.units+64<cLine:=by have:=r.un;omega
def p0:TA:=fun _ H Q=>Q [] H
def jS (ta:TE) (tr:TA):TA:=fun σ H Q=>ta σ H fun x H1=>tr σ H1 fun xs H2=>Q (x::xs) H2
section
variable {X:Cx} {e:Expr} {es:List Expr} {te:TE} {t:TA} {pos:Pos}
theorem ar:PA X [] p0:=fun _ _ _ _ H Q I h=>Calls.spliced_nil ⟨[],H,I,.nil,h⟩
theorem my (ha:PE X e te) (hr:PA X es t) (hs:starEach (e::es) X.env=(false,eval e X.env)::starEach es X.env:=by rfl):PA X (e::es) (jS te t):=by
 intro pos pins s σ H Q I h
 rw [hs]
 show wpAny _ _ (spliced ((false,eval e X.env)::backTo pos (starEach es X.env))) _ _ s
 refine Calls.spliced_cons (thn (ha pins s σ H _ I h) fun u s1 ⟨x,H1,I1,r1,q1⟩=>?_)
 exact thn (hr pos pins s1 σ H1 _ I1 q1) fun us s2 ⟨xs,H2,I2,r2,q2⟩=>⟨x::xs,H2,I2,.cons r1 r2,q2⟩
def pV (t:TA):TE:=fun σ H Q=>t σ H fun xs H1=>xs.length≤sizeLine∧∀p,H1 p=none→Q (.ref p) (upd H1 p (.tup xs))
def p4 (t:TA):TE:=fun σ H Q=>t σ H fun xs H1=>xs.length≤sizeLine∧∀p,H1 p=none→Q (.ref p) (upd H1 p (.lst xs))
theorem oE {x1} (h:PA X es t):PE X (.Tuple es x1 pos) (pV t):=by
 intro pins s σ H Q I hq
 refine wpAny_Tuple_spliced (thn (h pos pins s σ H _ I hq) fun us s1 ⟨xs,H1,I1,r,z,q⟩=>⟨by rw [←r.length];exact z,?_⟩)
 have hf:H1 s1.heap.objs.size=none:=I1.hok.fresh (Nat.le_refl _)
 refine ⟨.ref s1.heap.objs.size,upd H1 s1.heap.objs.size (.tup xs),I1.laid (t':=s1.toks) (fun b u e=>Heap.get?_push_of_some _ e) (Nat.le_refl _) ?_,rfl,q _ hf⟩
 exact ⟨z,us,r,⟨_,Heap.get?_push_size _ rfl,rfl,_,rfl⟩⟩
theorem g6 (h:PA X es t):PE X (.List es pos) (p4 t):=by
 intro pins s σ H Q I hq
 refine wpAny_List_spliced (thn (h pos pins s σ H _ I hq) fun us s1 ⟨xs,H1,I1,r,z,q⟩=>⟨by rw [←r.length];exact z,?_⟩)
 have hf:H1 s1.heap.objs.size=none:=I1.hok.fresh (Nat.le_refl _)
 refine ⟨.ref s1.heap.objs.size,upd H1 s1.heap.objs.size (.lst xs),I1.laid (t':=s1.toks) (fun b u e=>Heap.get?_push_of_some _ e) (Nat.le_refl _) ?_,rfl,q _ hf⟩
 exact ⟨z,us,0,r,Heap.get?_push_size _ rfl⟩
end
noncomputable abbrev Sp:=List V→Hp→VK→XK→Prop
noncomputable abbrev dF:=List Env→Hp→Shared→XK→Value→Shared→Prop
structure il (P:Program) (w:World) (K:PySem.W.Frag) (mg:Str→Option Value) (base:Heap) (A:Around) (outer:List Env) (s:Shared) (H:Hp):Prop where
 frames:A.frames=some outer
 mod:Mod K mg base
 bs: ∀b o,base.get? b=some o→s.heap.get? b=some o∧H b=none
 bsz:base.objs.size≤s.heap.objs.size
 funs:s.heap.FunFrames base outer
 frf: ∀b∈frs outer,H b=none
 hok:eK P w H s.heap
 bare:AllBare s.gens
def CE (outer:List Env) (P:Program) (w:World) (H:Hp) (s:Shared) (Q:VK) (u:Value) (s':Shared):Prop:=
 ∃v H',s'.os=s.os∧AllBare s'.gens∧Un (frs outer) [] H H' s.heap s'.heap∧eK P w H' s'.heap∧RelV v u∧Q v H'
def CR (CX:dF) (outer:List Env) (P:Program) (w:World) (H:Hp) (s:Shared) (Q:VK) (E:XK) (r:Result) (s':Shared):Prop:=
 match r with
 | .ok (.ret u)=>CE outer P w H s Q u s'
 | .ok _=>False
 | .error e=>CX outer H s E e s'
structure dZ (P:Program) (w:World) (K:PySem.W.Frag) (mg:Str→Option Value) (base:Heap) (CX:dF) (k:Nat) (f:Addr) (fd:FuncData) (ps:List Str) (sp:Sp):Prop where
 len: ∀vs H Q E,sp vs H Q E→vs.length=ps.length
 run: ∀(A:Around) (outer:List Env) (s:Shared) (H:Hp) (args:Args) (us:List Value) (vs:List V) (Q:VK) (E:XK),bL k A→il P w K mg base A outer s H→BindsTo s fd args (ps.zip us)→Vals vs us→sp vs H Q E→
  codeAny (model P w) A (.call (.ref f) args) (CR CX outer P w H s Q E) s
theorem il.make {P:Program} {w:World} {K:PySem.W.Frag} {mg:Str→Option Value} {base:Heap} {A:Around} {outer:List Env} {s:Shared} {H:Hp} (e:il P w K mg base A outer s H) (C:Addr) (us:List Value) (kw:List (Str×Value)):
  il P w K mg base (A.under (.builtin "type.__call__" ⟨.ref C::us,kw⟩)) outer s H:=⟨by first|exact e.frames|(simpa [Around.under,Code.envs,Code.isFrame,pushEnvs] using e.frames),e.mod,e.bs,e.bsz,e.funs,e.frf,e.hok,e.bare⟩
section
variable {X:Cx} {pins:List (Addr×Obj)} {σ:St} {H:Hp} {s s':Shared}
theorem Inv.pE (I:Inv X pins σ H s):il X.prog X.w X.K X.mg X.base X.A X.stack s H:=
 ⟨I.ok.frames,I.ok.mod,I.bs,Nat.le_trans I.ok.bsz I.sz,I.stack,I.d0,I.hok,I.bare⟩
theorem Inv.after {Q:VK} {u:Value} (I:Inv X pins σ H s) (h:CE X.stack X.prog X.w H s Q u s'):EP X pins σ Q u s':=by
 obtain ⟨v,H',os,bare,un,hok,r,q⟩:=h
 obtain ⟨hh,g,d,t,os'⟩:=s'
 obtain rfl:os'=s.os:=os
 exact ⟨v,H',I.call (h':=hh) (g':=g) (d':=d) (t':=t) (ch:=[]) un hok bare (fun b z=>absurd z (by simp)),r,q⟩
end
def iu (sp:Sp) (dvs:List V) (E:XK) (t:TA):TE:=fun σ H Q=>t σ H fun vs H1=>sp (vs++dvs) H1 Q E
def Binds (K:PySem.W.Frag) (fd:FuncData) (ps:List Str) (ds:List Value):Prop:=
 ∀(s:Shared) (us:List Value),K.In s.heap→(us++ds).length=ps.length→BindsTo s fd ⟨us,[]⟩ (ps.zip (us++ds))
theorem Binds.all {K:PySem.W.Frag} {fd:FuncData} {ps:List Str} (h: ∀us:List Value,us.length=ps.length→bindArgs fd ⟨us,[]⟩=pure (ps.zip us)):Binds K fd ps []:=fun s us _ hl=>by
 rw [List.append_nil] at hl⊢
 exact .of_eq (h us hl)
def Passes (CX:dF) (X:Cx) (E:XK):Prop:= ∀(pins:List (Addr×Obj)) (σ:St) (H:Hp) (s:Shared) (e:Value) (s':Shared),Inv X pins σ H s→CX X.stack H s E e s'→X.xe e s'
section
variable {X:Cx} {CX:dF} {k:Nat} {f C:Addr} {fd:FuncData} {ps:List Str} {sp:Sp} {dvs:List V} {ds:List Value} {E:XK} {x m:Str} {p pos apos:Pos} {e o:Expr} {es:List Expr} {ta:TE} {t:TA}
theorem n9 {pins:List (Addr×Obj)} {σ:St} {H:Hp} {s:Shared} {Q:VK} {us:List Value} {vs:List V} (F:dZ X.prog X.w X.K X.mg X.base CX k f fd ps sp) (hr:bL k X.A) (hb:Binds X.K fd ps ds) (hd:Vals dvs ds) (hx:Passes CX X E)
  (I:Inv X pins σ H s) (r:Vals vs us) (h:sp (vs++dvs) H Q E):wpAny (model X.prog X.w) X.A (call (.ref f) us) (EP X pins σ Q) X.xe s:=by
 have r2:Vals (vs++dvs) (us++ds):=r.append hd
 have hl:(us++ds).length=ps.length:=by rw [←r2.length];exact F.len _ _ _ _ h
 refine wpAny_call (codeAny_mono (F.run X.A X.stack s H ⟨us,[]⟩ (us++ds) (vs++dvs) Q E hr I.pE (hb s us I.dh hl) r2 h) fun r s' hq=>?_)
 cases r with
 |error e=>exact hx pins σ H s e s' I hq
 |ok fl=>
  cases fl with
  |ret u=>exact I.after hq
  |next=>exact False.elim hq
  |brk=>exact False.elim hq
  |cont=>exact False.elim hq
theorem mw (F:dZ X.prog X.w X.K X.mg X.base CX k f fd ps sp) (hr:bL k X.A) (hg:Gl X x) (hm:X.mg x=some (.ref f)) (hk:PySem.W.keepIn X.K (.ref f)=true) (hb:Binds X.K fd ps ds) (hd:Vals dvs ds) (hx:Passes CX X E)
  (ha:PA X (e::es) t) (hdb:(x == ("__debug__" : Str))=false:=by decide) (he:starEach (e::es) X.env=(false,eval e X.env)::starEach es X.env:=by rfl) (hpl:(backTo pos (starEach es X.env)).any (·.1)=false:=by rfl):
  PE X (.Call (.Name x p) (e::es) [] pos) (iu sp dvs E t):=by
 intro pins s σ H Q I h
 refine wpAny_Call_Name_kw (dz I hg hm ?_ hdb)
 refine PySem.W.callWith_K (h₀:=X.base) I.ok.mod.kin hk (thn (ha pos pins s σ H _ I h) fun us s1 ⟨vs,H1,I1,r,q⟩=>⟨I1.dh,?_⟩) he hpl
 exact n9 F hr hb hd hx I1 r q
end
section
variable {X:Cx} {CX:dF} {k:Nat} {f C:Addr} {fd:FuncData} {ps ks:List Str} {sp:Sp} {E:XK} {x m:Str} {p pos apos kpos:Pos} {e o:Expr} {es:List Expr} {kws:List Keyword} {te ta:TE} {t tk:TA} {nm:Option Str}
variable {g:List Value→List Value→List Value} {gV:List V→List V→List V}
end
structure bb (N P:List Str) (sc:Scope):Prop where
 kind:sc.kind = .function
 co:sc.isCoroutine=false
 gen:sc.isGenerator=false
 nd:N.Nodup
 pre:N.take P.length=P
 par: ∀x∈P,sc.names.lookup x=some .local∨sc.names.lookup x=some .cell
 nofree: ∀y∈sc.names,y.2≠ .free
theorem fb {kindOf:Str→Option NameKind} {x:Str}: ∀{binds:List (Str×Value)} {m:Str→Option Value},(∀v,(x,v) ∉ binds)→bindL kindOf binds m x=m x
 | [],_,_=>rfl
 |(n,v)::r,m,h=>by
  unfold bindL
  rw [fb fun w hw=>h w (List.mem_cons_of_mem _ hw)]
  split
  ·
   have:x≠n:=by rintro rfl;exact h v List.mem_cons_self
   simp [this]
  ·rfl
theorem fe {kindOf:Str→Option NameKind} {x:Str}: ∀{binds:List (Str×Value)} {m:Str→Option Value},(∀v,(x,v) ∉ binds)→bindC kindOf binds m x=m x
 | [],_,_=>rfl
 |(n,v)::r,m,h=>by
  unfold bindC
  rw [fe fun w hw=>h w (List.mem_cons_of_mem _ hw)]
  split
  ·rfl
  ·
   have:x≠n:=by rintro rfl;exact h v List.mem_cons_self
   simp [this]
theorem fc {kindOf:Str→Option NameKind} {x:Str} {v:Value}: ∀{P:List Str} {vs:List Value} {i:Nat} {m:Str→Option Value},P.Nodup→P[i]?=some x→vs[i]?=some v→kindOf x=some .local→
  bindL kindOf (P.zip vs) m x=some v
 | [],_,_,_,_,h,_,_=>by simp at h
 |_::_,[],_,_,_,_,h,_=>by simp at h
 |p::P,w::vs,0,m,nd,h1,h2,hk=>by
  simp at h1 h2;subst h1;subst h2
  show bindL kindOf ((p,w)::P.zip vs) m p=_
  unfold bindL
  rw [fb fun v hv=>(List.nodup_cons.mp nd).1 (List.of_mem_zip hv).1,if_pos hk]
  simp
 |p::P,w::vs,i+1,m,nd,h1,h2,hk=>by
  show bindL kindOf ((p,w)::P.zip vs) m x=_
  unfold bindL
  exact fc (i:=i) (List.nodup_cons.mp nd).2 (by simpa using h1) (by simpa using h2) hk
theorem ff {kindOf:Str→Option NameKind} {x:Str} {v:Value}: ∀{P:List Str} {vs:List Value} {i:Nat} {m:Str→Option Value},P.Nodup→P[i]?=some x→vs[i]?=some v→kindOf x≠some .local→
  bindC kindOf (P.zip vs) m x=some v
 | [],_,_,_,_,h,_,_=>by simp at h
 |_::_,[],_,_,_,_,h,_=>by simp at h
 |p::P,w::vs,0,m,nd,h1,h2,hk=>by
  simp at h1 h2;subst h1;subst h2
  show bindC kindOf ((p,w)::P.zip vs) m p=_
  unfold bindC
  rw [fe fun v hv=>(List.nodup_cons.mp nd).1 (List.of_mem_zip hv).1,if_neg hk]
  simp
 |p::P,w::vs,i+1,m,nd,h1,h2,hk=>by
  show bindC kindOf ((p,w)::P.zip vs) m x=_
  unfold bindC
  exact ff (i:=i) (List.nodup_cons.mp nd).2 (by simpa using h1) (by simpa using h2) hk
noncomputable def start (N:List Str) (vs:List V):St:=vs.map some++List.replicate (N.length - vs.length) none
noncomputable def eC (CX:dF) (P:Program) (w:World) (K:PySem.W.Frag) (mg:Str→Option Value) (base:Heap) (N:List Str) (qual:Str) (scope:Scope) (f:Addr) (cd:Value) (A:Around) (outer:List Env) (s:Shared) (H:Hp) (E:XK):Cx where
 prog:=P
 w:=w
 K:=K
 mg:=mg
 base:=base
 A:=A.deeper (envOfC qual scope s.heap.objs.size f cd)
 N:=N
 s₀:=s
 H₀:=H
 env:=envOfC qual scope s.heap.objs.size f cd
 outer:=outer
 stack:=envOfC qual scope s.heap.objs.size f cd::outer
 ex:=[]
 calm:=true
 fn:=fun _=>true
 pn:=[]
 xe:=fun e s'=>wpAny (model P w) (A.deeper (envOfC qual scope s.heap.objs.size f cd)) (leaving (envOfC qual scope s.heap.objs.size f cd) e) (fun _ s''=>CX outer H s E e s'') (fun e' s''=>CX outer H s E e' s'') s'
theorem gy {sc:Scope} {n:Nat} {x:Str} (h:sc.names.lookup x=some .cell): ∃c,(cellsFrom n sc.names []).lookup x=some c:=by
 have q:=PySem.W.cellsFrom_some sc.names n [] (.inl h)
 exact Option.isSome_iff_exists.mp q
theorem jB {CX:dF} {P:Program} {w:World} {K:PySem.W.Frag} {mg:Str→Option Value} {base:Heap} {N ps:List Str} {qual:Str} {scope:Scope} {f:Addr} {cd:Value} {A:Around} {outer:List Env} {s s1:Shared} {H:Hp} {E:XK} {us:List Value} {vs:List V}
  (S:bb N ps scope) (hd:A.handled=none) (e0:il P w K mg base A outer s H) (hl:vs.length=ps.length) (r:Vals vs us)
  (x:InCallC s s.heap.objs.size (bindL (envOfC qual scope s.heap.objs.size f cd).kindOf (ps.zip us) fun _=>none) (cellsFrom (s.heap.objs.size+1) scope.names []) (bindC (envOfC qual scope s.heap.objs.size f cd).kindOf (ps.zip us) fun _=>none) s1):
  Inv (eC CX P w K mg base N qual scope f cd A outer s H E) [] (start N vs) H s1:=by
 have hpl:ps.length≤N.length:=by have:=congrArg List.length S.pre;rw [List.length_take] at this;omega
 obtain ⟨h1,tk,rfl,hk⟩:=x.done
 have noA: ∀b:Addr,b ∉ (eC CX P w K mg base N qual scope f cd A outer s H E).ex:=fun b z=>absurd (show b∈([]:List Addr) from z) (by simp)
 refine ⟨⟨e0.mod,S.kind,rfl,rfl,Nat.le_refl _,fun y z c h1 h2=>?_,fun y hy=>?_,fun y c _ h=>?_,fun _=>hd,Around.frames_deeper e0.frames,.inr ⟨rfl,rfl⟩,fun b z=>absurd z (noA b),e0.bs,e0.bsz,fun b _ _=>noA b,fun b z=>absurd z (noA b),e0.funs,e0.frf⟩,
  rfl,e0.bare,Un.kept hk,⟨_,x.toInCall.ns,fun i y v h1 h2 h3=>?_⟩,fun y c h=>⟨_,x.cell y c h⟩,e0.hok.fresh (Nat.le_refl _),fun y c h=>?_,fun p hp=>absurd (show p∈([]:List (Addr×Obj)) from hp) (by simp),e0.hok.kept hk,?_⟩
 ·exact name_of_addr x.apart (PySem.mem_of_lookup h1) (PySem.mem_of_lookup h2)
 ·
  have hy:scope.names.lookup y=some .cell∨scope.names.lookup y=some .free:=hy
  rcases hy with hy|hy
  ·exact gy hy
  ·exact absurd rfl (S.nofree _ (PySem.mem_of_lookup hy))
 ·exact Nat.le_of_lt (x.above y c (PySem.mem_of_lookup h))
 ·have hi:i<vs.length:=by
   unfold start at h2
   by_cases hi:i<vs.length
   ·exact hi
   ·
    rw [List.getElem?_append_right (by simpa using hi)] at h2
    rw [List.getElem?_replicate] at h2
    split at h2<;>cases h2
  have ha:vs[i]?=some v:=by
   unfold start at h2
   rw [List.getElem?_append_left (by simpa using hi),List.getElem?_map] at h2
   cases e:vs[i]? with
   |none=>rw [e] at h2;cases h2
   |some a=>rw [e] at h2;cases h2;rfl
  obtain ⟨u,hu,rv⟩:=r.get ha
  have hp:ps[i]?=some y:=by
   rw [←S.pre,List.getElem?_take_of_lt (by omega)];exact h1
  have ndP:ps.Nodup:=by rw [←S.pre];exact S.nd.sublist (List.take_sublist _ _)
  refine ⟨u,rv,?_⟩
  rcases S.par y (List.mem_of_getElem? hp) with k|k
  ·exact .inl ⟨k,fc ndP hp hu k⟩
  ·
   obtain ⟨c,e⟩:=gy (n:=s.heap.objs.size+1) k
   refine .inr ⟨.inl k,c,e,?_⟩
   have q:=x.cell y c e
   rw [ff ndP hp hu (by show scope.names.lookup y≠_;rw [k];decide)] at q
   exact q
 ·exact e0.hok.fresh (Nat.le_of_lt (x.above y c (PySem.mem_of_lookup h)))
 ·
  unfold start
  show _=N.length
  rw [List.length_append,List.length_map,List.length_replicate]
  omega
theorem kW {CX:dF} {P:Program} {w:World} {K:PySem.W.Frag} {mg:Str→Option Value} {base:Heap} {k:Nat} {f:Addr} {name qual:Str} {params:Arguments} {body:List Stmt} {scope:Scope} {dV kV doc pm cdv ct oc:Value} {an od:Option Addr}
  {osl:Array (Option Value)} {N ps:List Str} {sp:Sp} (lk:K.lookup f=some ⟨oc,od,.func (PySem.W.fnOf name qual params body scope dV kV doc pm an cdv ct),osl⟩) (hcd:PySem.W.codeIn K cdv qual=true) (S:bb N ps scope)
  (len: ∀vs H Q E,sp vs H Q E→vs.length=ps.length)
  (
   hbody: ∀(A:Around) (outer:List Env) (s:Shared) (H:Hp) (vs:List V) (Q:VK) (E:XK),bL k (A.deeper (envOfC qual scope s.heap.objs.size f cdv))→sp vs H Q E→
   ∃t,eI (eC CX P w K mg base N qual scope f cdv A outer s H E) body t∧t {nx:=fun _ H'=>Q .non H',rt:=Q} (start N vs) H):
  dZ P w K mg base CX (k+1) f (PySem.W.fnOf name qual params body scope dV kV doc pm an cdv ct) ps sp:=by
 refine ⟨len,fun A outer s H args us vs Q E hr e0 hb r hsp=>?_⟩
 have hl:=len _ _ _ _ hsp
 have KX:K.In s.heap:=e0.mod.kin.keeps fun b o e=>(e0.bs b o e).1
 have lim:s.heap.NoLimit:=e0.mod.nolimit.keeps fun b o e=>(e0.bs b o e).1
 have hkind: ∀y∈ps.zip us,scope.names.lookup y.1=some .local∨(scope.names.lookup y.1=some .cell∧((cellsFrom (s.heap.objs.size+1) scope.names []).lookup y.1).isSome=true):=fun ⟨n,v⟩ hy=>by
  rcases S.par n (List.of_mem_zip hy).1 with q|q
  ·exact .inl q
  ·exact .inr ⟨q,PySem.W.cellsFrom_some _ _ _ (.inl q)⟩
 refine codeAny_call_function hr.depth (KX _ _ lk) rfl S.co S.gen rfl (PySem.W.codeRec_of KX hcd) (hb _ _ _ _ ?_)
 refine wpAny_newFunctionEnv_cells S.kind hkind fun env he s1 x=>?_
 subst he
 refine ⟨lim.keeps x.toInCall.keep,codeAny_func ?_⟩
 obtain ⟨t,ht,hq⟩:=hbody A outer s H vs Q E (hr.deeper _) hsp
 have I:Inv (eC CX P w K mg base N qual scope f cdv A outer s H E) [] (start N vs) H s1:=jB S hr.hd e0 hl r x
 refine wpAny_mono (ht [] s1 (start N vs) H _ I hq) (fun fl s' hs=>?_) fun e s' hs=>hs
 have fin: ∀{σ':St} {H':Hp} {v:V} {u:Value},Inv (eC CX P w K mg base N qual scope f cdv A outer s H E) [] σ' H' s'→RelV v u→Q v H'→CE outer P w H s Q u s':=
  fun {σ' H' v u} J rv q=>⟨v,H',J.os,J.bare,J.base,J.hok,rv,q⟩
 cases fl with
 |ret u=>
  obtain ⟨v,σ',H',J,rv,q⟩:=hs
  exact fin J rv q
 |next=>
  obtain ⟨σ',H',J,q⟩:=hs
  exact fin (v:=V.non) (u:=Value.none) J rfl q
 |brk=>
  obtain ⟨_,_,_,q⟩:=hs
  exact False.elim q
 |cont=>
  obtain ⟨_,_,_,q⟩:=hs
  exact False.elim q
section
variable {X:Cx} {x:Str} {p pos:Pos} {e:Expr} {es:List Expr} {t:TA} {id T:String} {r:List V→Hp→VK→Prop}
def q0 (r:List V→Hp→VK→Prop) (t:TA):TE:=fun σ H Q=>t σ H fun vs H1=>r vs H1 Q
theorem kA (hc:bK X (.builtin id) r) (hg:Gl X x) (hm:X.mg x=none) (hv:bootBuiltins x=some (.builtin id)) (ha:PA X (e::es) t) (hn:x≠ "__name__" :=by decide) (hdb:(x == ("__debug__" : Str))=false:=by decide)
  (he:starEach (e::es) X.env=(false,eval e X.env)::starEach es X.env:=by rfl) (hpl:(backTo pos (starEach es X.env)).any (·.1)=false:=by rfl):PE X (.Call (.Name x p) (e::es) [] pos) (q0 r t):=by
 intro pins s σ H Q I h
 refine wpAny_Call_Name_kw (fL I hg hm hv ?_ hn hdb)
 exact PyProof.Rows.callWith_builtin1 (thn (ha pos pins s σ H _ I h) fun us s1 ⟨vs,H1,I1,r1,q1⟩=>hc pins s1 σ H1 vs us Q I1 r1 q1) he hpl
end
end L2
namespace HT
open PySem PyProof.Rows
section
open PySem.SeqAt
open PySem.AutoSeq1 (wpAny_loadPart')
open PySem.MeetsSeq PySem.MeetsSeq2 PySem.MeetsSeq3
end
section
variable {prog:Program} {w:World} {A:Around} {E:Value→Shared→Prop} {s:Shared}
theorem mW {t b:Addr} {vs ws:List Value} {Q:Value→Shared→Prop} (ht:IsTup s.heap t vs.toArray) (hb:IsTup s.heap b ws.toArray) (hv:vs≠[])
  (h1:ws= []→Q (.ref t) s) (h2:ws≠[]→Q (.ref s.heap.objs.size) {s with heap:=s.heap.push {cls:= .type "tuple",data:= .seq (vs++ws).toArray}})
  (hsz:vs.length+ws.length≤sizeLine):wpAny (model prog w) A (binaryOp .Add (.ref t) (.ref b)) Q E s:=by
 obtain ⟨⟨cls,dd,data,sl⟩,ho,hc,n,hd⟩:=id ht
 obtain ⟨⟨cls2,dd2,data2,sl2⟩,ho2,hc2,n2,hd2⟩:=id hb
 simp only at hc hd hc2 hd2
 subst hc hd hc2 hd2
 have e:vs.toArray++ws.toArray=(vs++ws).toArray:=by simp
 by_cases hw:ws= []
 ·exact concat_meets ⟨_,ho,rfl⟩ ⟨_,ho2,rfl⟩ noFill_tuple_add seq_tuple_add PySem.F.slot_tuple_add PySem.F.entry_tuple_add (PySem.F.args_tuple_add_2 _ _)
   (tuple_addW1 t b vs.toArray ws.toArray n n2 dd dd2 sl sl2 (by simpa using hv) (by simp [hw])) ⟨ho,ho2,h1 hw⟩
 ·refine concat_meets ⟨_,ho,rfl⟩ ⟨_,ho2,rfl⟩ noFill_tuple_add seq_tuple_add PySem.F.slot_tuple_add PySem.F.entry_tuple_add (PySem.F.args_tuple_add_2 _ _)
   (tuple_addW2 t b vs.toArray ws.toArray n n2 dd dd2 sl sl2 (by simpa using hv) (by simpa using hw) (by rw [List.size_toArray,List.size_toArray];exact hsz)) ⟨ho,ho2,?_⟩
  rw [e]
  exact h2 hw
noncomputable def bQ (n d:Nat):Option Int→Nat
 |none=>d
 |some v=>if v<0 then (v+(n:Int)).toNat else min v.toNat n
theorem jX (n d:Nat):bQ n d none=d:=rfl
theorem lO (n d k:Nat):bQ n d (some (k:Int))=min k n:=by
 show (if (k:Int)<0 then ((k:Int)+(n:Int)).toNat else min (k:Int).toNat n)=min k n
 rw [if_neg (by omega),Int.toNat_natCast]
theorem n8 (n d:Nat) (hd:d≤n) (o:Option Int):bQ n d o≤n:=by
 cases o with
 |none=>exact hd
 |some v=>
  show (if v<0 then (v+(n:Int)).toNat else min v.toNat n)≤n
  by_cases hv:v<0
  ·rw [if_pos hv];omega
  ·rw [if_neg hv];exact Nat.min_le_right _ _
theorem iT (v:Int) (n d:Nat):(if v<0 then max (v+(n:Int)) 0 else min v (n:Int))=((bQ n d (some v):Nat):Int):=by
 show (if v<0 then max (v+(n:Int)) 0 else min v (n:Int))=(((if v<0 then (v+(n:Int)).toNat else min v.toNat n):Nat):Int)
 by_cases hv:v<0
 ·simp only [if_pos hv];omega
 ·simp only [if_neg hv];omega
theorem ib (lo hi:Option Int) (n:Nat):Builtin.Slice.sliceAdjust lo hi 1 (n:Int)=(((bQ n 0 lo:Nat):Int),((bQ n n hi:Nat):Int)):=by
 have h1: ¬((1:Int)<0):=by omega
 unfold Builtin.Slice.sliceAdjust
 simp only [h1,if_false]
 refine Prod.ext ?_ ?_
 ·
  cases lo with
  |none=>rfl
  |some v=>exact iT v n 0
 ·
  cases hi with
  |none=>rfl
  |some v=>exact iT v n n
theorem g5 (i j:Nat):Builtin.Slice.slicePlaces (i:Int) (j:Int) 1=j - i:=by
 unfold Builtin.Slice.slicePlaces
 have h1:(1:Int) > 0:=by omega
 simp only [h1,if_true,Int.ediv_one]
 split<;>omega
theorem d8 {v:Value} {o:Option Int} {Q:Option Int→Shared→Prop} (p:IsPart v o) (h:Q o s):wpAny (model prog w) A (Builtin.Slice.slicePartIndex v) Q E s:=by
 cases p with
 |none=>exact slicePart_none h
 |int i t=>exact slicePart_int h
theorem dI {sl:Addr} {vl vu:Value} {lo hi:Option Int} {n:Nat} {Q:Int×Int×Nat→Shared→Prop} (hs:s.heap.IsSliceOf sl vl vu .none) (pl:IsPart vl lo) (pu:IsPart vu hi)
  (h:Q (((bQ n 0 lo:Nat):Int),1,bQ n n hi - bQ n 0 lo) s):wpAny (model prog w) A (Builtin.Slice.sliceApplied (.ref sl) (pure (n:Int))) Q E s:=by
 obtain ⟨os,hos,hcs,hds⟩:=id hs
 unfold Builtin.Slice.sliceApplied Builtin.Slice.sliceFields
 refine wpAny_bind (wpAny_bind (wpAny_field hos hds (x:=vl) rfl (wpAny_bind (wpAny_field hos hds (x:=vu) rfl (wpAny_bind (wpAny_field hos hds (x:= .none) rfl (wpAny_pure ?_)))))))
 refine wpAny_bind (slicePart_none ?_)
 show wpAny _ _ (if ((1:Int) == 0)=true then _ else _) _ _ s
 rw [if_neg (by decide)]
 refine wpAny_bind (d8 pl (wpAny_bind (d8 pu (wpAny_bind (wpAny_pure ?_)))))
 show wpAny _ _ (match Builtin.Slice.sliceAdjust lo hi 1 (n:Int) with|(lo,hi)=>pure (lo,(1:Int),Builtin.Slice.slicePlaces lo hi 1)) _ _ s
 rw [ib lo hi n]
 show wpAny _ _ (pure (((bQ n 0 lo:Nat):Int),(1:Int),Builtin.Slice.slicePlaces ((bQ n 0 lo:Nat):Int) ((bQ n n hi:Nat):Int) 1)) _ _ s
 rw [g5]
 exact wpAny_pure h
theorem kv (xs:Array Value) (i k:Nat):((List.range k).filterMap fun (m:Nat)=>xs[((i:Int)+(m:Int)*1).toNat]?).toArray=((xs.toList.drop i).take k).toArray:=by
 have e:(fun (m:Nat)=>xs[((i:Int)+(m:Int)*1).toNat]?)=fun m=>xs[i+m]?:=by
  funext m
  have:((i:Int)+(m:Int)*1).toNat=i+m:=by omega
  rw [this]
 rw [e]
 have:=pick_run xs i k
 rw [List.filterMap_map] at this
 have e2:((fun x=>xs[x]?)∘fun x=>i+x)=fun m=>xs[i+m]?:=rfl
 rw [e2] at this
 rw [this]
theorem dA {t sl:Addr} {items:Array Value} {vl vu:Value} {lo hi:Option Int} {Q:Value→Shared→Prop} (ht:IsTup s.heap t items) (hs:s.heap.IsSliceOf sl vl vu .none) (pl:IsPart vl lo) (pu:IsPart vu hi)
  (hw: ¬(bQ items.size 0 lo=0∧bQ items.size items.size hi=items.size))
  (h:Q (.ref s.heap.objs.size) {s with heap:=s.heap.push {cls:= .type "tuple",data:= .seq ((items.toList.drop (bQ items.size 0 lo)).take (bQ items.size items.size hi - bQ items.size 0 lo)).toArray}})
  (hsz:items.size≤sizeLine):wpAny (model prog w) A (getItem (.ref t) (.ref sl)) Q E s:=by
 have htake:sizeOk (.seq ((items.toList.drop (bQ items.size 0 lo)).take (bQ items.size items.size hi - bQ items.size 0 lo)).toArray):=by
  show ((items.toList.drop (bQ items.size 0 lo)).take (bQ items.size items.size hi - bQ items.size 0 lo)).toArray.size≤sizeLine
  rw [List.size_toArray,List.length_take,List.length_drop,Array.length_toList]
  omega
 have hj:bQ items.size items.size hi≤items.size:=n8 _ _ (Nat.le_refl _) hi
 obtain ⟨os,hos,hcs,hds⟩:=id hs
 have hTs:s.TypeIs (.ref sl) "slice" :=⟨os,hos,hcs⟩
 unfold getItem
 try with_reducible refine wpAny_holding ?_
 first|refine wpAny_bind (wpAny_pure ?_)|skip
 refine wpAny_bind (wpAny_sequenceKey ht.typeIs (by decide) ?_)
 refine wpAny_bind (wpAny_callSpecial?_slot (name:=Str.ofString "__getitem__") ht.typeIs PyProof.Rows.slot_tuple_getitem
  (wpAny_call_entry PyProof.Rows.slot_tuple_getitem ht.typeIs entry_tuple_getitem ?_ (args_tuple_getitem _ _)))
 show wpAny _ _ (Builtin.Tuple.tupleItemsOf (.ref t) >>= _) _ _ s
 refine wpAny_bind (tupleItemsOf_ ht ?_)
 refine wpAny_bind (wpAny_typeOf hTs ?_)
 rw [if_pos (by decide)]
 refine wpAny_bind (dI hs pl pu ?_)
 have hno: ¬((((bQ items.size 0 lo:Nat):Int) == 0&&(1:Int) == 1&&(bQ items.size items.size hi - bQ items.size 0 lo) == items.size)=true):=by
  intro q
  rw [Bool.and_eq_true,Bool.and_eq_true] at q
  have q1:((bQ items.size 0 lo:Nat):Int)=0:=eq_of_beq q.1.1
  have q2:bQ items.size items.size hi - bQ items.size 0 lo=items.size:=eq_of_beq q.2
  exact hw ⟨by omega,by omega⟩
 show wpAny _ _ (if (((bQ items.size 0 lo:Nat):Int) == 0&&(1:Int) == 1&&(bQ items.size items.size hi - bQ items.size 0 lo) == items.size)=true then _ else _) _ _ s
 rw [if_neg hno,kv]
 first
  |exact wpAny_bind (m:=Builtin.Tuple.tupleExact _) (wpAny_newObj_type (wpAny_pure ⟨_,rfl,wpAny_pure h⟩) htake)
  |exact wpAny_bind (m:=Builtin.Tuple.tupleExact _) (wpAny_newObj_type (wpAny_bind (wpAny_pure (wpAny_pure ⟨_,rfl,wpAny_pure h⟩))) htake)
  |exact wpAny_bind (wpAny_bind (m:=Builtin.Tuple.tupleExact _) (wpAny_newObj_type (wpAny_pure (wpAny_pure ⟨_,rfl,wpAny_pure h⟩)) htake))
  |exact wpAny_bind (wpAny_bind (m:=Builtin.Tuple.tupleExact _) (wpAny_newObj_type (wpAny_pure ⟨_,rfl,wpAny_pure h⟩) htake))
end
end HT
namespace L2
open PySem PySem.Spec PyProof.Rows
noncomputable abbrev TO:=St→Hp→(Option Int→Hp→Prop)→Prop
def PO (X:Cx) (e:Option Expr) (t:TO):Prop:=
 ∀(pins:List (Addr×Obj)) (s:Shared) (σ:St) (H:Hp) (Q:Option Int→Hp→Prop),Inv X pins σ H s→t σ H Q→
  wpAny (model X.prog X.w) X.A (evalPart e X.env) (fun u s'=> ∃o H',Inv X pins σ H' s'∧IsPart u o∧Q o H') X.xe s
def iq:TO:=fun _ H Q=>Q none H
def nh (t:TE):TO:=fun σ H Q=>t σ H fun x H1=> ∃i,x = .int i∧Q (some i) H1
section
variable {X:Cx} {e:Expr} {te:TE} {lo hi:Option Expr} {tl th:TO} {pos p2:Pos}
theorem bU:PO X none iq:=by
 intro pins s σ H Q I h
 rw [evalPart_none]
 exact wpAny_pure ⟨none,H,I,.none,h⟩
theorem bT (h:PE X e te):PO X (some e) (nh te):=by
 intro pins s σ H Q I hw
 rw [evalPart_some]
 refine thn (h pins s σ H _ I hw) fun u s1 ⟨x,H1,I1,r1,q1⟩=>?_
 obtain ⟨i,rfl,q⟩:=q1
 obtain ⟨t,rfl⟩:=r1
 exact ⟨some i,H1,I1,.int i t,q⟩
def iU (X:Cx) (r:V→Option Int→Option Int→Hp→VK→Prop):Prop:=
 ∀(pins:List (Addr×Obj)) (s:Shared) (σ:St) (H:Hp) (x:V) (v vl vu:Value) (lo hi:Option Int) (sl:Addr) (Q:VK),Inv X pins σ H s→RelV x v→s.heap.IsSliceOf sl vl vu .none→IsPart vl lo→IsPart vu hi→r x lo hi H Q→
  ∃T id,typeLookup (.type T) "__getitem__" = pure (some (.builtin id))∧s.TypeIs v T∧wpAny (model X.prog X.w) X.A (getItem v (.ref sl)) (EP X pins σ Q) X.xe s
theorem iU.or {r r':V→Option Int→Option Int→Hp→VK→Prop} (h:iU X r) (h':iU X r'):iU X (fun x lo hi H Q=>r x lo hi H Q∨r' x lo hi H Q):=by
 intro pins s σ H x v vl vu lo hi sl Q I rx hs pl pu q
 rcases q with q|q
 ·exact h pins s σ H x v vl vu lo hi sl Q I rx hs pl pu q
 ·exact h' pins s σ H x v vl vu lo hi sl Q I rx hs pl pu q
def rF (r:V→Option Int→Option Int→Hp→VK→Prop) (te:TE) (tl th:TO):TE:=fun σ H Q=>te σ H fun x H1=>tl σ H1 fun l H2=>th σ H2 fun u H3=>r x l u H3 Q
theorem bB {r:V→Option Int→Option Int→Hp→VK→Prop} (hr:iU X r) (he:PE X e te) (hl:PO X lo tl) (hu:PO X hi th):PE X (.Subscript e (.Slice lo hi none p2) pos) (rF r te tl th):=by
 intro pins s σ H Q I h
 refine Subscript_ (thn (he pins s σ H _ I h) fun v s1 ⟨x,H1,I1,r1,q1⟩=>?_)
 refine wpAny_Slice (thn (hl pins s1 σ H1 _ I1 q1) fun vl s2 ⟨l,H2,I2,pl,q2⟩=>thn (hu pins s2 σ H2 _ I2 q2) fun vu s3 ⟨u,H3,I3,pu,q3⟩=>?_)
 rw [evalPart_none]
 refine wpAny_pure ?_
 have I4:Inv X pins σ H3 {s3 with heap:=s3.heap.push {cls:= .type "slice",data:= .fields #[vl,vu,.none]}}:=I3.kept (t':=s3.toks) fun b ob q=>Heap.get?_push_of_some _ q
 obtain ⟨T,id,hT,ht,hg⟩:=hr pins {s3 with heap:=s3.heap.push {cls:= .type "slice",data:= .fields #[vl,vu,.none]}} σ H3 x v vl vu l u s3.heap.objs.size Q I4 r1 (Heap.IsSliceOf.new ..) pl pu q3
 show wpAny (model X.prog X.w) X.A (subscriptTail e (.Slice lo hi none p2) v (.ref s3.heap.objs.size)) (EP X pins σ Q) X.xe {s3 with heap:=s3.heap.push {cls:= .type "slice",data:= .fields #[vl,vu,.none]}}
 exact tail_any (ops:=[.ref s3.heap.objs.size,v]) ht hT hg (by with_unfolding_all rfl)
noncomputable def dQ (xs:List V) (lo hi:Option Int):List V:=(xs.drop (HT.bQ xs.length 0 lo)).take (HT.bQ xs.length xs.length hi - HT.bQ xs.length 0 lo)
theorem dS (xs:List V) (lo hi:Option Int):(dQ xs lo hi).length≤xs.length:=by
 unfold dQ
 rw [List.length_take,List.length_drop]
 omega
def qa (K:PySem.W.Frag):V→Option Int→Option Int→Hp→VK→Prop:=fun x lo hi H Q=> ∃a xs,x = .ref a∧c2 K H a xs∧
 ¬(HT.bQ xs.length 0 lo=0∧HT.bQ xs.length xs.length hi=xs.length)∧∀p,H p=none→Q (.ref p) (upd H p (.tup (dQ xs lo hi)))
theorem n5:iU X (qa X.K):=by
 intro pins s σ H x v vl vu lo hi sl Q I rx hs pl pu h
 obtain ⟨a,xs,rfl,hx,hw,q⟩:=h
 cases rx
 obtain ⟨its,r,ht,hz⟩:=I.tuple hx
 have hlen:its.toArray.size=xs.length:=by rw [List.size_toArray];exact r.length.symm
 refine ⟨"tuple",_,PyProof.Rows.slot_tuple_getitem.lookup,ht.typeIs,?_⟩
 refine HT.dA ht hs pl pu (by rw [hlen];exact hw) ?_ (by rw [hlen];exact hz)
 rw [hlen]
 refine ⟨.ref s.heap.objs.size,_,I.laid (t':=s.toks) (o:= .tup (dQ xs lo hi)) (fun b ob q=>Heap.get?_push_of_some _ q) (Nat.le_refl _) ?_,rfl,q _ (I.hok.fresh (Nat.le_refl _))⟩
 exact ⟨Nat.le_trans (dS xs lo hi) hz,_,(r.drop (HT.bQ xs.length 0 lo)).take (HT.bQ xs.length xs.length hi - HT.bQ xs.length 0 lo),IsTup.new _ _⟩
def nr (K:PySem.W.Frag):R2:=fun x y H Q=> ∃a b xs ys,x = .ref a∧y = .ref b∧c2 K H a xs∧c2 K H b ys∧xs≠[]∧xs.length+ys.length≤sizeLine∧
 (ys= []→Q (.ref a) H)∧(ys≠[]→∀p,H p=none→Q (.ref p) (upd H p (.tup (xs++ys))))
theorem Vals.fK {xs:List V} {us:List Value} (r:Vals xs us):us= []↔xs= []:=by
 cases r with
 |nil=>simp
 |cons _ _=>simp
theorem mB:cf X (binaryOp .Add) (nr X.K):=by
 intro pins s σ H x y v u Q I rx ry h
 obtain ⟨a,b,xs,ys,rfl,rfl,ha,hb,hx,hz,q1,q2⟩:=h
 cases rx
 cases ry
 obtain ⟨its,r1,p1,_⟩:=I.tuple ha
 obtain ⟨its2,r2,p2,_⟩:=I.tuple hb
 refine HT.mW p1 p2 (fun z=>hx (r1.fK.mp z)) (fun z=>⟨.ref a,H,I,rfl,q1 (r2.fK.mp z)⟩) (fun z=>?_) (by rw [←r1.length,←r2.length];exact hz)
 refine ⟨.ref s.heap.objs.size,_,I.laid (t':=s.toks) (o:= .tup (xs++ys)) (fun b ob q=>Heap.get?_push_of_some _ q) (Nat.le_refl _) ?_,rfl,q2 (fun w=>z (r2.fK.mpr w)) _ (I.hok.fresh (Nat.le_refl _))⟩
 exact ⟨by rw [List.length_append];exact hz,_,r1.append r2,IsTup.new _ _⟩
end
noncomputable def nC (n:Nat) (i:Int):Option Nat:=if 0≤i then (if i<n then some i.toNat else none) else if -(n:Int)≤i then some (i+n).toNat else none
noncomputable def jK {α:Type} (xs:List α) (i:Int):Option α:=(nC xs.length i).bind fun j=>xs[j]?
theorem mK {n:Nat} {i:Int} {j:Nat} (h:nC n i=some j):seqIndex? i n=some j∧j<n∧-(n:Int)≤i∧i<n:=by
 unfold nC at h
 by_cases h0:0≤i
 ·
  rw [if_pos h0] at h
  by_cases h1:i<n
  ·
   rw [if_pos h1] at h
   have e:i.toNat=j:=Option.some.inj h
   exact ⟨by rw [seqIndex_of h0 h1,e],by omega,by omega,h1⟩
  ·rw [if_neg h1] at h;cases h
 ·
  rw [if_neg h0] at h
  by_cases h1 : -(n:Int)≤i
  ·
   rw [if_pos h1] at h
   have e:(i+n).toNat=j:=Option.some.inj h
   exact ⟨by rw [seqIndex_neg (by omega) h1,e],by omega,h1,by omega⟩
  ·rw [if_neg h1] at h;cases h
theorem d6 {α:Type} {xs:List α} {i:Int} {v:α} (h:jK xs i=some v): ∃j,seqIndex? i xs.length=some j∧xs[j]?=some v∧j<xs.length∧-(xs.length:Int)≤i∧i<xs.length:=by
 unfold jK at h
 cases e:nC xs.length i with
 |none=>rw [e] at h;cases h
 |some j=>
  rw [e] at h
  obtain ⟨h1,h2,h3,h4⟩:=mK e
  exact ⟨j,h1,h,h2,h3,h4⟩
theorem mZ {α:Type} {xs:List α} {j:Nat} {v:α} (h:xs[j]?=some v):jK xs (j:Int)=some v:=by
 have hj:j<xs.length:=(List.getElem?_eq_some_iff.mp h).1
 have e:nC xs.length (j:Int)=some j:=by
  unfold nC
  rw [if_pos (by omega),if_pos (by omega)];simp
 unfold jK;rw [e];exact h
def iV (b:Expr):Prop:= ∀o i,subscripted b false o i=operate [o,i] (getItem o i)
def ij (X:Cx) (r:R2):Prop:=
 ∀(value slice:Expr) (pins:List (Addr×Obj)) (s:Shared) (σ:St) (H:Hp) (x y:V) (v u:Value) (Q:VK),Inv X pins σ H s→RelV x v→RelV y u→r x y H Q→
  subscripted slice false v u=operate [v,u] (getItem v u)→wpAny (model X.prog X.w) X.A (subscriptTail value slice v u) (EP X pins σ Q) X.xe s
def pS (X:Cx) (id:String) (r:V→List V→Hp→VK→Prop):Prop:=
 ∀(pins:List (Addr×Obj)) (s:Shared) (σ:St) (H:Hp) (x:V) (xs:List V) (v:Value) (us:List Value) (Q:VK),Inv X pins σ H s→RelV x v→Vals xs us→r x xs H Q→
  wpAny (model X.prog X.w) X.A (call (.builtin id) (v::us)) (EP X pins σ Q) X.xe s
section
variable {X:Cx} {a b:Expr} {ta tb:TE} {pos:Pos}
theorem ij.or {r r':R2} (h:ij X r) (h':ij X r'):ij X (fun x y H Q=>r x y H Q∨r' x y H Q):=by
 intro value slice pins s σ H x y v u Q I rx ry q hs
 rcases q with q|q
 ·exact h value slice pins s σ H x y v u Q I rx ry q hs
 ·exact h' value slice pins s σ H x y v u Q I rx ry q hs
theorem iF {r:R2} (hr:ij X r) (ha:PE X a ta) (hb:PE X b tb) (hs:iV b):PE X (.Subscript a b pos) (nV r ta tb):=by
 intro pins s σ H Q I h
 exact Subscript_ (pN ha hb I h fun v u s2 x y H2 I2 rx ry q=>hr a b pins s2 σ H2 x y v u Q I2 rx ry q (hs _ _))
def qi (K:PySem.W.Frag):R2:=fun x y H Q=> ∃p xs i v,x = .ref p∧y = .int i∧bP K H p xs∧jK xs i=some v∧Q v H
def qf (K:PySem.W.Frag):R2:=fun x y H Q=> ∃p xs i v,x = .ref p∧y = .int i∧c2 K H p xs∧jK xs i=some v∧Q v H
def qh:R2:=fun x y H Q=> ∃z i c,x = .str z∧y = .int i∧z.length≤sizeLine∧jK z.cps.toList i=some c∧Q (.str ⟨#[c]⟩) H
theorem mI:ij X (qi X.K):=by
 intro value slice pins s σ H x y v u Q I rx ry h hs
 obtain ⟨p,xs,i,z,rfl,rfl,hq,he,q⟩:=h
 cases rx
 obtain ⟨t,rfl⟩:=ry
 obtain ⟨its,r,pl,hz⟩:=I.list hq
 obtain ⟨j,h1,h2,h3,h4,h5⟩:=d6 he
 obtain ⟨w,ew,rw'⟩:=r.get h2
 have hl:=r.length
 have hn:=dN
 have fin:EP X pins σ Q w s:=⟨z,H,I,rw',q⟩
 by_cases h0:0≤i
 ·have hj:i.toNat=j:=by
   rw [seqIndex_of h0 h5] at h1
   exact Option.some.inj h1
  exact item_listR pl.isList h0 (by omega) (by rw [hj];simpa using ew) fin hs
 ·have hj:(i+(its.toArray.size:Int)).toNat=j:=by
   rw [seqIndex_neg (by omega) h4] at h1
   rw [List.size_toArray,←hl]
   exact Option.some.inj h1
  exact subscriptTail_builtinR (x:=w) pl.isList.typeIs slot_list_getitem.lookup
   (wpAny_getItem_list_neg (Q:=fun r s'=>r=w∧EP X pins σ Q r s') pl.isList (by omega) (by rw [List.size_toArray]<;>omega) (by omega) (by rw [hj];simpa using ew) ⟨rfl,fin⟩) hs
theorem o_:ij X (qf X.K):=by
 intro value slice pins s σ H x y v u Q I rx ry h hs
 obtain ⟨p,xs,i,z,rfl,rfl,hq,he,q⟩:=h
 cases rx
 obtain ⟨t,rfl⟩:=ry
 obtain ⟨its,r,pl,hz⟩:=I.tuple hq
 obtain ⟨j,h1,h2,h3,h4,h5⟩:=d6 he
 obtain ⟨w,ew,rw'⟩:=r.get h2
 have hl:=r.length
 have hn:=dN
 have fin:EP X pins σ Q w s:=⟨z,H,I,rw',q⟩
 exact subscriptTail_builtinR (x:=w) pl.typeIs slot_tuple_getitem.lookup
  (getItem_tuple (j:=j) (Q:=fun r s'=>r=w∧EP X pins σ Q r s') pl (by omega) (by omega) (by rw [List.size_toArray,←hl];exact h1) (by simpa using ew) ⟨rfl,fin⟩) hs
theorem pf:ij X qh:=by
 intro value slice pins s σ H x y v u Q I rx ry h hs
 obtain ⟨z,i,c,rfl,rfl,hz,he,q⟩:=h
 obtain ⟨t,rfl⟩:=rx
 obtain ⟨t',rfl⟩:=ry
 obtain ⟨j,h1,h2,h3,h4,h5⟩:=d6 he
 have hl:z.cps.toList.length=z.length:=by simp [Str.length]
 rw [hl] at h1 h4 h5
 have hn:=dN
 exact tail_any (typeIs_str s z t) slot_str_getitem.lookup (getItem_str (c:=c) (by
  have e1:decide (i < -(2 ^ 63:Int))=false:=decide_eq_false (by omega)
  have e2:decide (i≥2 ^ 63)=false:=decide_eq_false (by omega)
  rw [e1,e2,Bool.or_false]) (by rw [h1];simpa using h2) ⟨.str ⟨#[c]⟩,H,I.tok _,⟨_,rfl⟩,q⟩) hs
def rQ (K:PySem.W.Frag):R2:=fun x y H Q=>qi K x y H Q∨qf K x y H Q∨qh x y H Q
theorem ph:ij X (rQ X.K):=mI.or (o_.or pf)
theorem fo (lo hi:Option Int) (n:Nat):(sliceBounds lo hi none n).1=((HT.bQ n 0 lo:Nat):Int)∧(sliceBounds lo hi none n).2.1=((HT.bQ n n hi:Nat):Int)∧(sliceBounds lo hi none n).2.2=1:=by
 refine ⟨?_,?_,rfl⟩
 ·
  cases lo with
  |none=>simp [sliceBounds,HT.bQ]
  |some i=>
   simp only [sliceBounds,HT.bQ,Option.getD_none,show (1:Int) > 0 by decide,if_true]
   by_cases h:i<0
   ·simp only [h,if_true]<;>omega
   ·simp only [h,if_false]<;>omega
 ·
  cases hi with
  |none=>simp [sliceBounds,HT.bQ]
  |some i=>
   simp only [sliceBounds,HT.bQ,Option.getD_none,show (1:Int) > 0 by decide,if_true]
   by_cases h:i<0
   ·simp only [h,if_true]<;>omega
   ·simp only [h,if_false]<;>omega
theorem eL (its:List Value) (lo hi:Option Int):slicePick its.toArray lo hi none=((its.drop (HT.bQ its.length 0 lo)).take (HT.bQ its.length its.length hi - HT.bQ its.length 0 lo)).toArray:=by
 obtain ⟨h1,h2,h3⟩:=fo lo hi its.toArray.size
 unfold slicePick
 rw [h1,h2,h3]
 simp only [sliceRange_one,pick_run,List.size_toArray]<;>rfl
def rg (K:PySem.W.Frag):V→Option Int→Option Int→Hp→VK→Prop:=fun x lo hi H Q=> ∃a xs,x = .ref a∧bP K H a xs∧∀p,H p=none→Q (.ref p) (upd H p (.lst (dQ xs lo hi)))
theorem lN:iU X (rg X.K):=by
 intro pins s σ H x v vl vu lo hi sl Q I rx hs pl pu h
 obtain ⟨a,xs,rfl,hx,q⟩:=h
 cases rx
 obtain ⟨its,r,ht,hz⟩:=I.list hx
 have hlen:=r.length
 refine ⟨"list",_,slot_list_getitem.lookup,ht.isList.typeIs,?_⟩
 refine wpAny_getItem_list_slice ht.isList hs pl pu .none (by simp) ?_ (by rw [List.size_toArray]<;>omega)
 rw [eL,←hlen]
 refine ⟨.ref s.heap.objs.size,_,I.laid (t':=s.toks) (o:= .lst (dQ xs lo hi)) (fun b ob q=>Heap.get?_push_of_some _ q) (Nat.le_refl _) ?_,rfl,q _ (I.hok.fresh (Nat.le_refl _))⟩
 exact ⟨Nat.le_trans (dS xs lo hi) hz,_,0,(r.drop (HT.bQ xs.length 0 lo)).take (HT.bQ xs.length xs.length hi - HT.bQ xs.length 0 lo),Heap.get?_push_size _ rfl⟩
noncomputable def cJ:V→Bool
 | .non=>true
 | .bl _=>true
 | .int _=>true
 | .str _=>true
 |_=>false
noncomputable def nE:V→V→Bool
 | .non,.non=>true
 | .bl a,.bl b=>a == b
 | .bl a,.int b=>(if a then 1 else 0) == b
 | .int a,.bl b=>a == (if b then 1 else 0)
 | .int a,.int b=>a == b
 | .str a,.str b=>a == b
 |_,_=>false
theorem pD {A:Around} {s:Shared} {y x:V} {u v:Value} (ry:RelV y u) (rx:RelV x v) (fy:cJ y=true) (fx:cJ x=true):SeqAt.EqAt A s u v (nE y x):=by
 cases y with
 |non=>
  cases ry
  cases x with
  |non=>cases rx;exact SeqAt.EqAt.same _
  |bl b=>cases rx;exact SeqAt.EqAt.none_bool b
  |int b=>obtain ⟨t,rfl⟩:=rx;exact SeqAt.EqAt.none_int b t
  |str b=>obtain ⟨t,rfl⟩:=rx;exact SeqAt.EqAt.none_str b t
  |_=>exact absurd (show false=true from fx) Bool.false_ne_true
 |bl a=>
  cases ry
  cases x with
  |non=>cases rx;exact SeqAt.EqAt.bool_none a
  |bl b=>cases rx;exact SeqAt.EqAt.bool_bool a b
  |int b=>obtain ⟨t,rfl⟩:=rx;exact SeqAt.EqAt.bool_int a b t
  |str b=>obtain ⟨t,rfl⟩:=rx;exact SeqAt.EqAt.bool_str a b t
  |_=>exact absurd (show false=true from fx) Bool.false_ne_true
 |int a=>
  obtain ⟨t',rfl⟩:=ry
  cases x with
  |non=>cases rx;exact SeqAt.EqAt.int_none a t'
  |bl b=>cases rx;exact SeqAt.EqAt.int_bool a t' b
  |int b=>obtain ⟨t,rfl⟩:=rx;exact SeqAt.EqAt.int_int a t' b t
  |str b=>obtain ⟨t,rfl⟩:=rx;exact SeqAt.EqAt.int_str a t' b t
  |_=>exact absurd (show false=true from fx) Bool.false_ne_true
 |str a=>
  obtain ⟨t',rfl⟩:=ry
  cases x with
  |non=>cases rx;exact SeqAt.EqAt.str_none a t'
  |bl b=>cases rx;exact SeqAt.EqAt.str_bool a t' b
  |int b=>obtain ⟨t,rfl⟩:=rx;exact SeqAt.EqAt.str_int a t' b t
  |str b=>obtain ⟨t,rfl⟩:=rx;exact SeqAt.EqAt.str_str a t' b t
  |_=>exact absurd (show false=true from fx) Bool.false_ne_true
 |_=>exact absurd (show false=true from fy) Bool.false_ne_true
noncomputable def mT (x:V) (u:Value):Bool:=match u with
 | .none=>nE .non x
 | .bool b=>nE (.bl b) x
 | .int i _=>nE (.int i) x
 | .str z _=>nE (.str z) x
 |_=>false
theorem k4 {x y:V} {u:Value} (r:RelV y u) (f:cJ y=true):mT x u=nE y x:=by
 cases y with
 |non=>cases r;rfl
 |bl b=>cases r;rfl
 |int i=>obtain ⟨t,rfl⟩:=r;rfl
 |str z=>obtain ⟨t,rfl⟩:=r;rfl
 |_=>exact absurd (show false=true from f) Bool.false_ne_true
theorem fS {x:V}: ∀{xs:List V} {us:List Value},Vals xs us→xs.all cJ=true→us.any (mT x)=xs.any fun y=>nE y x
 |_,_,.nil,_=>rfl
 |y::xs,u::us,.cons r t,f=>by
  rw [List.all_cons,Bool.and_eq_true] at f
  rw [List.any_cons,List.any_cons,k4 r f.1,fS t f.2]
theorem er {A:Around} {s:Shared} {x:V} {v:Value} (rx:RelV x v) (fx:cJ x=true): ∀{xs:List V} {us:List Value},Vals xs us→xs.all cJ=true→∀u∈us,SeqAt.EqAt A s u v (mT x u)
 |_,_,.nil,_=>fun u hu=>by cases hu
 |y::xs,u::us,.cons r t,f=>fun u' hu=>by
  rw [List.all_cons,Bool.and_eq_true] at f
  rcases List.mem_cons.mp hu with rfl|hu
  ·rw [k4 r f.1];exact pD r rx f.1 fx
  ·exact er rx fx t f.2 u' hu
noncomputable def pQ (x:V) (xs:List V):Bool:=xs.any fun y=>nE y x
def rR (K:PySem.W.Frag) (neg:Bool):R2:=fun x y H Q=> ∃p xs,y = .ref p∧(bP K H p xs∨c2 K H p xs)∧cJ x=true∧xs.all cJ=true∧Q (.bl (if neg then !pQ x xs else pQ x xs)) H
theorem ju:cf X (compareOp .In) (rR X.K false):=by
 intro pins s σ H x y v u Q I rx ry h
 obtain ⟨p,xs,rfl,hq,fx,fs,q⟩:=h
 cases ry
 rcases hq with hq|hq
 ·
  obtain ⟨its,r,pl,hz⟩:=I.list hq
  refine SeqAt.in_listAt (mT x) pl.isList (fun w hw=>er rx fx r fs w (by simpa using hw)) ⟨.bl _,H,I,rfl,?_⟩
  rw [show its.toArray.any (mT x)=its.any (mT x) by simp,fS r fs]
  exact q
 ·
  obtain ⟨its,r,pl,hz⟩:=I.tuple hq
  refine SeqAt.in_tupleAt (mT x) pl (fun w hw=>er rx fx r fs w (by simpa using hw)) ⟨.bl _,H,I,rfl,?_⟩
  rw [show its.toArray.any (mT x)=its.any (mT x) by simp,fS r fs]
  exact q
theorem fP:bK X (.builtin "len") (fun xs H Q=> ∃p ys,xs= [.ref p]∧(bP X.K H p ys∨c2 X.K H p ys)∧Q (.int ys.length) H):=by
 intro pins s σ H xs us Q I r h
 obtain ⟨p,ys,rfl,hq,q⟩:=h
 obtain ⟨u,rfl,rx⟩:=vals1 r
 cases rx
 have hn:=dN
 rcases hq with hq|hq
 ·
  obtain ⟨its,r',pl,hz⟩:=I.list hq
  have hlen:=r'.length
  exact Calls.call_len_list pl.isList (by simp only [List.size_toArray]<;>omega) ⟨.int ys.length,H,I.tok _,⟨s.toks+1,by rw [List.size_toArray,hlen]⟩,q⟩
 ·
  obtain ⟨its,r',pl,hz⟩:=I.tuple hq
  have hlen:=r'.length
  exact len_tuple pl (by simp only [List.size_toArray]<;>omega) ⟨.int ys.length,H,I.tok _,⟨s.toks+1,by rw [List.size_toArray,hlen]⟩,q⟩
theorem fO:bK X (.builtin "len") (fun xs H Q=> ∃z,xs= [.str z]∧z.length≤sizeLine∧Q (.int z.length) H):=by
 intro pins s σ H xs us Q I r h
 obtain ⟨z,rfl,hz,q⟩:=h
 obtain ⟨u,rfl,t,rfl⟩:=vals1 r
 have hn:=dN
 exact len_str (by omega) ⟨.int z.length,H,I.tok _,⟨_,rfl⟩,q⟩
theorem bK.or {f:Value} {r r':List V→Hp→VK→Prop} (h:bK X f r) (h':bK X f r'):bK X f (fun xs H Q=>r xs H Q∨r' xs H Q):=by
 intro pins s σ H xs us Q I rs q
 rcases q with q|q
 ·exact h pins s σ H xs us Q I rs q
 ·exact h' pins s σ H xs us Q I rs q
def pP (K:PySem.W.Frag) (T:String) (x:V) (H:Hp):Prop:=match x with
 | .str _=>T = "str"
 | .int _=>T = "int"
 |
   .ref p=>(T = "list" ∧∃xs,bP K H p xs)∨(T = "tuple" ∧∃o,K.lookup p=some o∧o.cls = .type "tuple" ∧o.dict=none)∨
   (T = "dict" ∧((∃kvs,H p=some (.dK kvs))∨∃kvs,H p=some (.dT kvs)))∨(T = "set" ∧∃S n,H p=some (.set S n))
 |_=>False
theorem nP {pins:List (Addr×Obj)} {σ:St} {H:Hp} {s:Shared} {T:String} {x:V} {v:Value} (I:Inv X pins σ H s) (r:RelV x v) (ty:pP X.K T x H):
  s.TypeIs v T∧∀a,v = .ref a→∃ob,s.heap.get? a=some ob∧ob.dict=none:=by
 cases x with
 |str z=>
  obtain ⟨t,rfl⟩:=r
  cases (show T = "str" from ty)
  exact ⟨typeIs_str s z t,fun _ e=>nomatch e⟩
 |int i=>
  obtain ⟨t,rfl⟩:=r
  cases (show T = "int" from ty)
  exact ⟨typeIs_int s i t,fun _ e=>nomatch e⟩
 |ref p=>
  cases r
  rcases ty with ⟨rfl,xs,hq⟩|⟨rfl,o,hk,hc,hd⟩|⟨rfl,hk⟩|⟨rfl,S,n,hk⟩
  ·
   obtain ⟨its,_,pl,_⟩:=I.list hq
   refine ⟨pl.isList.typeIs,fun a e=>?_⟩
   cases e
   obtain ⟨o,n,e,c,hd,_⟩:=pl
   exact ⟨o,e,hd⟩
  ·
   refine ⟨⟨o,I.dh p o hk,hc⟩,fun a e=>?_⟩
   cases e
   exact ⟨o,I.dh _ o hk,hd⟩
  ·have z: ∃o,s.heap.get? p=some o∧o.ExactDict:=by
    rcases hk with ⟨kvs,hk⟩|⟨kvs,hk⟩
    ·
     obtain ⟨_,_,_,_,o,_,_,e,ex,_⟩:=I.hok p _ hk
     exact ⟨o,e,ex⟩
    ·
     obtain ⟨_,_,_,_,o,_,_,e,ex,_⟩:=I.hok p _ hk
     exact ⟨o,e,ex⟩
   obtain ⟨o,e,ex⟩:=z
   refine ⟨⟨o,e,ex.1⟩,fun a e2=>?_⟩
   cases e2
   exact ⟨o,e,ex.2.1⟩
  ·
   obtain ⟨o,_,_,_,e,ex,_⟩:=I.hok p _ hk
   refine ⟨⟨o,e,ex.1⟩,fun a e2=>?_⟩
   cases e2
   exact ⟨o,e,ex.2.1⟩
 |_=>exact False.elim ty
def q5 (K:PySem.W.Frag) (T:String) (r:V→List V→Hp→VK→Prop) (to:TE):TE:=fun σ H Q=>to σ H fun x H1=>pP K T x H1∧r x [] H1 Q
def q9 (K:PySem.W.Frag) (T:String) (r:V→List V→Hp→VK→Prop) (to:TE) (t:TA):TE:=fun σ H Q=>to σ H fun x H1=>pP K T x H1∧t σ H1 fun xs H2=>r x xs H2 Q
variable {o e:Expr} {es:List Expr} {to:TE} {t:TA} {name:Str} {apos cpos:Pos} {T id:String} {r:V→List V→Hp→VK→Prop}
theorem qo (pa:PlainAttrs T) (slot:Slot T name id) (hty:typeOf (.builtin id)=pure (.type "method_descriptor")) (hm:pS X id r) (ho:PE X o to) (ha:PA X (e::es) t)
  (hbase:attributeBase o name X.env (eval o X.env)=eval o X.env:=by rfl)
  (
   hfew:((backTo cpos (starEach (e::es) X.env)).all (fun x=>!x.1)&&(backToKw cpos (keywordEach [] X.env)).all (fun x=>x.1.isSome)
   &&decide ((e::es).length+([]:List Keyword).length+(if ([]:List Keyword).isEmpty then 0 else 1)<30))=true:=by rfl)
  (hline:(apos.endLine == cpos.line)=true:=by rfl) (hs:starEach (e::es) X.env=(false,eval e X.env)::starEach es X.env:=by rfl) (hplain:(backTo cpos (starEach es X.env)).any (·.1)=false:=by rfl):
  PE X (.Call (.Attribute o name apos) (e::es) [] cpos) (q9 X.K T r to t):=by
 intro pins s σ H Q I h
 refine wpAny_Call_method_late hbase hfew hline rfl (thn (ho pins s σ H _ I h) fun v s1 ⟨x,H1,I1,r1,ty,q1⟩=>?_)
 obtain ⟨h1,h2⟩:=nP I1 r1 ty
 refine ⟨T,id,pa,slot,hty,h1,h2,?_⟩
 have hA:=ha cpos pins s1 σ H1 _ I1 q1
 rw [hs] at hA⊢
 refine Calls.callWith_builtin (by show (false||(backTo cpos (starEach es X.env)).any (·.1))=false;rw [hplain]<;>rfl) (Calls.evalArgs_plain ?_)
 exact thn hA fun us s2 ⟨vs,H2,I2,r2,q2⟩=>hm pins s2 σ H2 x vs v us Q I2 r1 r2 q2
end
theorem Vals.one: ∀{x:V} {us:List Value},Vals [x] us→∃u,us= [u]∧RelV x u
 |_,_,.cons r .nil=>⟨_,rfl,r⟩
section
variable {X:Cx} {pins:List (Addr×Obj)} {σ:St} {H:Hp} {s:Shared} {l b:Addr} {xs ys zs:List V}
theorem Inv.lnew {its:List Value} {t':Nat} (I:Inv X pins σ H s) (hv:Vals ys its) (hz:ys.length≤sizeLine):
  Inv X pins σ (upd H s.heap.objs.size (.lst ys)) {s with heap:=s.heap.push {cls:= .type "list",data:= .seq its.toArray},toks:=t'}:=
 I.laid (fun _ _ q=>Heap.get?_push_of_some _ q) (Nat.le_refl _) ⟨hz,its,0,hv,Heap.get?_push_size _ rfl⟩
theorem Inv.fresh (I:Inv X pins σ H s):H s.heap.objs.size=none:=I.hok.fresh (Nat.le_refl _)
theorem Inv.qv (I:Inv X pins σ H s) (hH:H l=some (.lst xs)):xs.length≤sizeLine∧∃(its:List Value) (n:Nat),Vals xs its∧xs.length=its.length∧s.heap.get? l=some {cls:= .type "list",data:= .seq its.toArray n}:=by
 obtain ⟨z,its,n,r,e⟩:=I.hok l _ hH
 exact ⟨z,its,n,r,r.length,e⟩
end
section
variable {X:Cx}
def ql:R2:=fun x y H Q=> ∃l b xs zs,x = .ref l∧y = .ref b∧H l=some (.lst xs)∧H b=some (.lst zs)∧xs.length+zs.length≤sizeLine∧∀p,H p=none→Q (.ref p) (upd H p (.lst (xs++zs)))
theorem oN:cf X (binaryOp .Add) ql:=by
 intro pins s σ H x y v u Q I rx ry h
 obtain ⟨l,b,xs,zs,rfl,rfl,hH,hB,hz,q⟩:=h
 cases rx
 cases ry
 obtain ⟨z,its,n,r,hl,e⟩:=I.qv hH
 obtain ⟨z2,its2,n2,r2,hl2,e2⟩:=I.qv hB
 refine PySem.P.add_list e e2 ?_ (by rw [List.size_toArray,List.size_toArray];omega)
 have ea:its.toArray++its2.toArray=(its++its2).toArray:=by simp
 rw [ea]
 exact ⟨.ref _,_,I.lnew (t':=s.toks) (r.append r2) (by rw [List.length_append];omega),rfl,q _ I.fresh⟩
end
section
variable {prog:Program} {w:World} {A:Around} {E:Value→Shared→Prop} {s:Shared}
end
section
variable {X:Cx}
end
end L2
namespace Att
open PySem PySem.W PySem.Calls PyProof.Rows
theorem dW {P:Params} {h:Heap}: ∀(ns:List Int) (vs:List Value),WellAll P h vs (ns.map WData.int)→IntsAre vs ns:=by
 intro ns
 induction ns with
 |nil=>
  intro vs w
  rw [List.map_nil] at w
  cases w
  exact .nil
 |cons n ns ih=>
  intro vs w
  rw [List.map_cons] at w
  cases w with
  |cons a b=>
   cases a
   exact .cons _ _ (ih _ b)
theorem i5 {l:OpenLaw} {n:Nat} (hn:l.most=some n) {P:Params} {h:Heap} {args:List WData} {vals:List Value}
  (hpre:l.row.toRowW.claim.pre args=true) (hwl:WellAll P h vals args):
  ∃a vs ns,vals= [Value.ref a]∧args= [WData.list (ns.map WData.int)]∧h.get? a=some {cls:= .type "list",data:= .seq vs.toArray}∧IntsAre vs ns∧ns.length≤n:=by
 have hsh:WShape.hasAll [] args [.list .int]=true:=(pre_splitW hpre).1
 have hc:l.pre.holds [] {args:=args}=true:=(pre_splitW hpre).2
 obtain ⟨d,r,rfl,h1,h2⟩:=hasAllW_cons hsh
 obtain rfl:=hasAllW_nil h2
 obtain ⟨xs,rfl,h3⟩:=hasW_list h1
 obtain ⟨ns,rfl⟩:=items_int h3
 have hlen:ns.length≤n:=by
  unfold OpenLaw.pre at hc
  have h4:(WTm.not (.lt (.lit (.int (n:Int))) (.len (.arg 0)))).holds [] {args:=[.list (ns.map .int)]}=true:=by
   have h4:=(holds_andW hc).1
   rw [hn] at h4
   exact h4
  have h5:=condW_of h4 (w_not (w_lt w_lit (w_len_list (w_arg rfl))))
  rw [List.length_map] at h5
  refine Nat.le_of_not_lt fun q=>?_
  have q':(n:Int)<((ns.length:Nat):Int):=by omega
  first
   |(rw [decide_eq_true q'] at h5;exact absurd h5 (by decide))
   |(simp at h5;omega)
 cases hwl with
 |cons w1 w2=>
  cases w2
  cases w1 with
  |list ho hall=>exact ⟨_,_,ns,rfl,rfl,ho,dW ns _ hall,hlen⟩
theorem jq (l:OpenLaw) (args:List WData):l.row.toRowW.claim.post args (.bool true) args=true:=
 postW_of (r:=l.row.toRowW) (X:=(true == true))
  (show WShape.has [] (.bool true) .bool=true by first|rfl|decide|simp [WShape.has,WShape.arms,WShape.armsAll])
  (show (WTm.eq .res (.lit (.bool true))).value [] {args:=args,res:=some (.bool true),after:=args}=some (.bool (true == true)) from w_eq_bool (w_res rfl) w_lit) rfl
theorem gC {l:OpenLaw} {n:Nat} {q:Program} {loose:List Str} {XP:(Str→Option Value)→Heap→Prop} {YP:World→Heap→Prop} {d:DefRec}
  (hn:l.most=some n) (hdf:d.params.defaults= [])
  (
   call: ∀(w:World) (s₀ s₁:Shared) (mg mb:Str→Option Value) (fa:Addr) (o:Obj) (pm cd doc:Value) (a:Addr) (vs:List Value) (ns:List Int),
   Ground q loose [] XP w s₀ mg mb s₁.heap→YP w s₁.heap→
   s₁.heap.get? fa=some o→o.data = .func (docDef d.name d.params d.body d.scope pm cd doc)→s₁.heap.CodeRec cd d.name→mg d.name=some (.ref fa)→
   s₁.heap.get? a=some {cls:= .type "list",data:= .seq vs.toArray}→IntsAre vs ns→ns.length≤n→s₁.gens = #[]→
   codeAny (model l.prog w) callerA (.call (.ref fa) ⟨[.ref a],[]⟩) (fun r s'=>r = .ok (.ret (.bool true))∧OldK s₁.heap s'.heap∧s'.os=s₁.os∧AllBare s'.gens) s₁):
  WalkO q loose XP YP l.row.toRowW d [] (fun f vs=>PySem.call f vs):=by
 intro w s₀ s₁ mg mb G Y fa o pm cd doc dV kV ho hd hcd hD hmg hg args vals as hpre hlay hrd hwl hlo
 obtain rfl:dV = .none:=Dflts.none hD hdf
 obtain rfl:kV = .none:=Dflts.noKw hD
 obtain ⟨a,vs,ns,rfl,rfl,hobj,hints,hlen⟩:=i5 hn hpre hwl
 refine enter_call (codeAny_mono (call w s₀ s₁ mg mb fa o pm cd doc a vs ns G Y ho (fd_plain hd) hcd hmg hobj hints hlen hg) fun r s' hq=>?_)
 obtain ⟨rfl,h2,h3,h4⟩:=hq
 exact ⟨.inl ⟨.bool true,.bool true,[],rfl,fun _=>rfl,.bool true,jq l _,fun _=>⟨List.Pairwise.nil,fun _ hm=>(nomatch hm)⟩⟩,h2,h3,h4⟩
section
variable {prog:Program} {w:World} {A:Around} {E:Value→Shared→Prop} {s:Shared} {K:Frag}
end
end Att
namespace L2
open PySem PySem.Spec PyProof.Rows
theorem eV: ∀{vs:List Value} {ns:List Int},IntsAre vs ns→Vals (ns.map V.int) vs
 |_,_,.nil=> .nil
 |_,_,.cons n t h=> .cons ⟨t,rfl⟩ (eV h)
def lz (H:Hp):Prop:= ∀b,H b=none∨∃o xs,H b=some (.frz o (.lst xs))
theorem kK {P:Program} {w:World} {K:PySem.W.Frag} {mg mb:Str→Option Value} {CX:dF} {k:Nat} {fa a:Addr} {fd:FuncData} {x:Str} {sp:Sp} {s₁:Shared} {vs:List Value} {ns:List Int}
  (KX:K.In s₁.heap) (hns:s₁.heap.Ns mainGlobals mg) (hb:s₁.heap.Ns builtinsNs mb) (hbb: ∀x:Str,x≠ "__name__" →mb x=bootBuiltins x) (hlim:s₁.heap.NoLimit) (hg:s₁.gens = #[])
  (ha:s₁.heap.get? a=some {cls:= .type "list",data:= .seq vs.toArray}) (hi:IntsAre vs ns) (hl:ns.length≤sizeLine) (hr:bL k callerA)
  (F: ∀base:Heap,K.In base→base.Ns mainGlobals mg→dZ P w K mg base CX k fa fd [x] sp) (hbind: ∀(s:Shared) (u:Value),BindsTo s fd ⟨[u],[]⟩ [(x,u)])
  (hsp: ∀H:Hp,lz H→bP K H a (ns.map V.int)→sp [.ref a] H (fun v _=>v = .bl true) fun _ _ _=>False)
  (hCX: ∀H e s',CX [] H s₁ (fun _ _ _=>False) e s'→False):
  codeAny (model P w) callerA (.call (.ref fa) ⟨[.ref a],[]⟩) (fun r s'=>r = .ok (.ret (.bool true))∧OldK s₁.heap s'.heap∧s'.os=s₁.os∧AllBare s'.gens) s₁:=by
 have rv:=eV hi
 have lenV:=hi.length

 have core: ∀H:Hp,lz H→bP K H a (ns.map V.int)→eK P w H s₁.heap→(∀b,H b≠none→b=a)→(H a≠none→K.lookup a=none)→
   codeAny (model P w) callerA (.call (.ref fa) ⟨[.ref a],[]⟩) (fun r s'=>r = .ok (.ret (.bool true))∧OldK s₁.heap s'.heap∧s'.os=s₁.os∧AllBare s'.gens) s₁:=by
  intro H hO hS hok hA hK
  have base_of: ∀{b:Addr} {o:Obj},s₁.heap.get? b=some o→H b=none→(fM s₁.heap H).get? b=some o:=fun e n=>kQ e n
  have noA: ∀{b:Addr} {o:Obj} {es:Array DictEntry} {ep:Nat},s₁.heap.get? b=some o→o.data = .dict es ep→H b=none:=fun {b o es ep} e d=>by
   cases q:H b with
   |none=>rfl
   |some u=>
    have e':b=a:=hA b (by rw [q];simp)
    subst e'
    rw [ha] at e;cases e
    have d':Data.seq vs.toArray _=Data.dict es ep:=d
    cases d'
  have nsK: ∀{b:Addr} {m:Str→Option Value},s₁.heap.Ns b m→(fM s₁.heap H).Ns b m:=fun {b m} ⟨o,es,ep,e,d,r⟩=>⟨o,es,ep,base_of e (noA e d),d,r⟩
  have hKb:K.In (fM s₁.heap H):=fun b o e=>base_of (KX b o e) (by
   cases q:H b with
   |none=>rfl
   |some u=>
    have e':b=a:=hA b (by rw [q];simp)
    subst e'
    rw [hK (by rw [q];simp)] at e;cases e)
  have hM:Mod K mg (fM s₁.heap H):=⟨hKb,nsK hns,⟨mb,nsK hb,hbb⟩,let ⟨mc,h1,h2⟩:=hlim;⟨mc,nsK h1,h2⟩⟩
  have e0:il P w K mg (fM s₁.heap H) callerA [] s₁ H:=⟨rfl,hM,fun b o e=>mD e,Nat.le_of_eq (jC _ _),trivial,fun b hb=>absurd (show b∈([]:List Addr) from hb) (by simp),hok,.of_eq hg⟩
  refine codeAny_mono ((F _ hKb (nsK hns)).run callerA [] s₁ H ⟨[.ref a],[]⟩ [.ref a] [.ref a] _ _ hr e0 (hbind s₁ (.ref a)) (.cons rfl .nil) (hsp H hO hS)) fun r s' h=>?_
  cases r with
  |error e=>exact (hCX H e s' h).elim
  |ok fl=>
   cases fl with
   |next=>exact False.elim h
   |brk=>exact False.elim h
   |cont=>exact False.elim h
   |ret u=>
    obtain ⟨v,H',os,bare,un,hok',r',q⟩:=h
    have q':v = .bl true:=q
    subst q'
    obtain rfl:u=Value.bool true:=r'
    refine ⟨rfl,OldK.of_keep fun b o e=>?_,os,bare⟩
    cases q:H b with
    |none=>exact un.keep b o e q (by intro z;exact absurd (show b∈([]:List Addr) from z) (by simp)) (by simp)
    |some u=>
     rcases hO b with z|⟨ob,xs,z⟩
     ·rw [q] at z;cases z
     ·
      have z2:=un.frzs b ob _ z
      obtain ⟨e1,_⟩:=hok b _ z
      obtain ⟨e2,_⟩:=hok' b _ z2
      rw [e] at e1;cases e1
      exact e2
 cases hk:K.lookup a with
 |some o=>

  have e:=KX a o hk
  rw [ha] at e
  cases e
  refine core (fun _=>none) (fun _=> .inl rfl) (.inr ⟨_,vs.toArray,_,hk,rfl,rfl,rfl,by rw [List.size_toArray,lenV];exact hl,by simpa using rv,fun x hx=>by obtain ⟨_,_,rfl⟩:=List.mem_map.mp hx;rfl⟩) (fun b u z=>by have z':(none:Option HO)=some u:=z;cases z') (fun b z=>absurd rfl z) fun z=>absurd rfl z
 |none=>
  refine core (fun b=>if b=a then some (.frz {cls:= .type "list",data:= .seq vs.toArray} (.lst (ns.map V.int))) else none) (fun b=>?_) (.inl (.inr ⟨{cls:= .type "list",data:= .seq vs.toArray},if_pos rfl⟩)) (fun b u z=>?_) (fun b z=>?_) fun _=>hk
  ·
   by_cases hb:b=a
   ·exact .inr ⟨_,_,if_pos hb⟩
   ·exact .inl (if_neg hb)
  ·
   by_cases hb:b=a
   ·
    have z':=(if_pos hb).symm.trans z
    cases z'
    subst hb
    exact ⟨ha,by rw [List.length_map];exact hl,vs,_,rv,ha⟩
   ·
    have z':=(if_neg hb).symm.trans z
    cases z'
  ·
   by_cases hb:b=a
   ·exact hb
   ·exact absurd (if_neg hb) z
theorem lH {l:PySem.W.OpenLaw} {n k:Nat} {q:Program} {loose:List Str} {XP:(Str→Option Value)→Heap→Prop} {YP:World→Heap→Prop} {d:DefRec} {K:Params→PySem.W.Frag} {CX:World→dF} {sp:World→Sp} {x:Str}
  (hn:l.most=some n) (hn2:n≤sizeLine) (hdf:d.params.defaults= []) (hr:bL k callerA)
  (hY: ∀(w:World) (h:Heap),YP w h→(K w.params).In h)
  (
   F: ∀(w:World) (mg:Str→Option Value) (fa:Addr) (h:Heap),(K w.params).In h→h.Ns mainGlobals mg→mg d.name=some (.ref fa)→
   ∃fd:FuncData,(∀(s:Shared) (u:Value),BindsTo s fd ⟨[u],[]⟩ [(x,u)])∧
    ∀base:Heap,(K w.params).In base→base.Ns mainGlobals mg→dZ l.prog w (K w.params) mg base (CX w) k fa fd [x] (sp w))
  (hsp: ∀(w:World) (H:Hp) (a:Addr) (ns:List Int),ns.length≤n→lz H→bP (K w.params) H a (ns.map V.int)→sp w [.ref a] H (fun v _=>v = .bl true) fun _ _ _=>False)
  (hCX: ∀(w:World) (H:Hp) (s:Shared) (e:Value) (s':Shared),CX w [] H s (fun _ _ _=>False) e s'→False):
  PySem.W.WalkO q loose XP YP l.row.toRowW d [] (fun f vs=>PySem.call f vs):=by
 refine Att.gC hn hdf fun w s₀ s₁ mg mb fa o pm cd doc a vs ns G Y ho hd hcd hmg hobj hints hlen hg=>?_
 have KX:=hY w _ Y
 obtain ⟨fd,hb,hF⟩:=F w mg fa _ KX G.T.g hmg
 exact kK KX G.T.g G.T.b G.T.builtins G.T.nolimit hg hobj hints (Nat.le_trans hlen hn2) hr hF hb (fun H hO hS=>hsp w H a ns hlen hO hS) fun H e s'=>hCX w H s₁ e s'
theorem jM {l:PySem.W.OpenLaw} {n k:Nat} {q:Program} {loose:List Str} {XP:(Str→Option Value)→Heap→Prop} {YP:World→Heap→Prop} {d:DefRec} {K:Params→PySem.W.Frag} {CX:dF} {sp:PySem.W.Frag→Sp} {x:Str}
  (hn:l.most=some n) (hn2:n≤sizeLine) (hdf:d.params.defaults= []) (hr:bL k callerA)
  (hY: ∀(w:World) (h:Heap),YP w h→(K w.params).In h)
  (
   F: ∀(w:World) (mg:Str→Option Value) (fa:Addr) (h:Heap),(K w.params).In h→h.Ns mainGlobals mg→mg d.name=some (.ref fa)→
   ∃fd:FuncData,(∀(s:Shared) (u:Value),BindsTo s fd ⟨[u],[]⟩ [(x,u)])∧
    ∀base:Heap,(K w.params).In base→base.Ns mainGlobals mg→dZ l.prog w (K w.params) mg base CX k fa fd [x] (sp (K w.params)))
  (hsp: ∀(K:PySem.W.Frag) (H:Hp) (a:Addr) (ns:List Int),ns.length≤n→lz H→bP K H a (ns.map V.int)→sp K [.ref a] H (fun v _=>v = .bl true) fun _ _ _=>False)
  (hCX: ∀(H:Hp) (s:Shared) (e:Value) (s':Shared),CX [] H s (fun _ _ _=>False) e s'→False):
  PySem.W.WalkO q loose XP YP l.row.toRowW d [] (fun f vs=>PySem.call f vs):=
 lH (K:=K) (CX:=fun _=>CX) (sp:=fun w=>sp (K w.params)) hn hn2 hdf hr hY F (fun w H a ns h1 h2 h3=>hsp (K w.params) H a ns h1 h2 h3) fun _ H s e s'=>hCX H s e s'
end L2
namespace L2
open PySem PySem.Spec PyProof.Rows
noncomputable def inClass (s:Stmt) (j:Nat):Stmt:=match s with
 | .ClassDef _ _ _ body _ _ _ _ _ _ _=>body.getD j (.Pass ⟨0,0,0,0⟩)
 |_=> .Pass ⟨0,0,0,0⟩
noncomputable def bN (s:Stmt):Arguments:=match s with
 | .FunctionDef _ a _ _ _ _ _ _ _ _=>a
 |_=>{posonlyargs:=[],args:=[],vararg:=none,kwonlyargs:=[],kw_defaults:=[],kwarg:=none,defaults:=[]}
noncomputable def bj (s:Stmt):List Stmt:=match s with
 | .FunctionDef _ _ b _ _ _ _ _ _ _=>b
 |_=>[]
noncomputable def aj (s:Stmt):Scope:=match s with
 | .FunctionDef _ _ _ _ _ _ sc _ _ _=>sc
 |_=>{kind:= .function,names:=[],isGenerator:=false,isCoroutine:=false}
abbrev pT:dF:=fun _ _ _ _ _ _=>False
abbrev E0:XK:=fun _ _ _=>False
theorem qq {X:Cx}:Passes pT X E0:=fun _ _ _ _ _ _ _ h=>h.elim
structure qN (K:PySem.W.Frag) (x qual:Str) (st:Stmt) (f:Addr) (fd:FuncData):Prop where
 ex: ∃(oc:Value) (od:Option Addr) (kV doc pm:Value) (an:Option Addr) (cdv ct:Value) (osl:Array (Option Value)),
  fd=PySem.W.fnOf x qual (bN st) (bj st) (aj st) .none kV doc pm an cdv ct∧K.lookup f=some ⟨oc,od,.func fd,osl⟩∧PySem.W.codeIn K cdv qual=true
 kp:PySem.W.keepIn K (.ref f)=true
section
variable {P:Program} {w:World} {K:PySem.W.Frag} {mg:Str→Option Value} {base:Heap}
theorem qN.binds {x qual:Str} {st:Stmt} {f:Addr} {fd:FuncData} {ps:List Str} (F:qN K x qual st f fd)
  (h: ∀(kV doc pm:Value) (an:Option Addr) (cdv ct:Value) (us:List Value),us.length=ps.length→bindArgs (PySem.W.fnOf x qual (bN st) (bj st) (aj st) .none kV doc pm an cdv ct) ⟨us,[]⟩=pure (ps.zip us)):Binds K fd ps []:=by
 obtain ⟨oc,od,kV,doc,pm,an,cdv,ct,osl,rfl,lk,hcd⟩:=F.ex
 exact .all (h kV doc pm an cdv ct)
theorem kT {x qual:Str} {st:Stmt} {f:Addr} {oc:Value} {od an:Option Addr} {osl:Array (Option Value)} {kV doc pm cdv ct:Value} (l:K.lookup f=some ⟨oc,od,.func (PySem.W.fnOf x qual (bN st) (bj st) (aj st) .none kV doc pm an cdv ct),osl⟩)
  (c:PySem.W.codeIn K cdv qual=true) (k:PySem.W.keepIn K (.ref f)=true):qN K x qual st f (PySem.W.fnOf x qual (bN st) (bj st) (aj st) .none kV doc pm an cdv ct):=⟨⟨oc,od,kV,doc,pm,an,cdv,ct,osl,rfl,l,c⟩,k⟩
end
section
variable {X:Cx}
theorem pv (i:Nat) {x:Str} {pos:Pos} (hN:X.N[i]?=some x:=by rfl) (hv:qS X.env.scope x:=by first|exact Or.inl rfl|exact Or.inr (Or.inl rfl)|exact Or.inr (Or.inr rfl)) (hd:(x == ("__debug__" : Str))=false:=by decide)
  (hcd:(x == ("__classdict__" : Str))=false:=by decide):PE X (.Name x pos) (nR i):=oC hN hv hd hcd
end
def bw (H H':Hp):Prop:= ∀b o,H b=some o→H' b=some o
theorem bw.refl (H:Hp):bw H H:=fun _ _ h=>h
theorem bw.trans {H H1 H2:Hp} (a:bw H H1) (b:bw H1 H2):bw H H2:=fun c o h=>b c o (a c o h)
theorem bw.seq {K:PySem.W.Frag} {H H':Hp} {a:Addr} {xs:List V} (e:bw H H') (h:bP K H a xs):bP K H' a xs:=by
 rcases h with (h|⟨o,h⟩)|h
 ·exact .inl (.inl (e _ _ h))
 ·exact .inl (.inr ⟨o,e _ _ h⟩)
 ·exact .inr h
section
variable {κ:Type} [DecidableEq κ]
end
section
variable {P:Program} {w:World} {H:Hp} {h:Heap} {a:Addr}
end
section
variable {X:Cx} {pins:List (Addr×Obj)} {σ:St} {H:Hp} {s:Shared} {a:Addr} {y v:V} {u r:Value} {o:Option V} {A:Around} {E:Value→Shared→Prop}
end
section
variable {X:Cx} {pins:List (Addr×Obj)} {σ:St} {H:Hp} {s:Shared} {a:Addr} {kvs:List (Key×V)} {k:Key} {u:Value} {A:Around} {E:Value→Shared→Prop}
end
section
variable {X:Cx} {o i e value:Expr} {pos pos' tpos:Pos} {td ty tv:TE}
end
section
variable {X:Cx} {pos:Pos}
end
section
variable {X:Cx} {pins:List (Addr×Obj)} {σ:St} {H:Hp} {s:Shared} {a:Addr} {y d:V} {u r:Value} {o:Option V} {A:Around} {E:Value→Shared→Prop}
end
section
variable {X:Cx} {o e f:Expr} {apos cpos:Pos} {td ty tx:TE}
end
section
variable {X:Cx} {pins:List (Addr×Obj)} {σ:St} {H:Hp} {s:Shared} {a:Addr} {kvs:List (Key×V)} {A:Around} {E:Value→Shared→Prop}
end
section
variable {X:Cx} {pins:List (Addr×Obj)} {σ:St} {H:Hp} {s:Shared} {a:Addr} {y:V} {u:Value} {A:Around} {E:Value→Shared→Prop}
end
section
variable {X:Cx}
end
section
variable {κ:Type} [DecidableEq κ]
end
def FnAt (P:Program) (w:World) (K:PySem.W.Frag) (mg:Str→Option Value) (base:Heap) (CX:dF) (x:Str) (k:Nat) (ps:List Str) (sp:Sp):Prop:=
 ∃f fd,dZ P w K mg base CX k f fd ps sp∧mg x=some (.ref f)∧PySem.W.keepIn K (.ref f)=true∧Binds K fd ps []∧∃oc od osl,K.lookup f=some ⟨oc,od,.func fd,osl⟩
def b3 (K:PySem.W.Frag) (mg:Str→Option Value) (x:Str) (st:Stmt):Prop:= ∃f fd,qN K x x st f fd∧mg x=some (.ref f)
class Quiet (CX:dF):Prop where
 pass: ∀(X:Cx),Passes CX X E0
noncomputable instance:Quiet pT:=⟨fun _=>qq⟩
theorem k8 {K:PySem.W.Frag} {h:Heap} {mg:Str→Option Value} {x:Str} {st:Stmt} {f:Addr} {oc:Value} {od an:Option Addr} {osl:Array (Option Value)} {kV doc pm cdv ct:Value} (X:K.In h) (G:h.Ns mainGlobals mg)
  (a:PySem.W.nsIn K mainGlobals x=some (some (.ref f)))
  (l:K.lookup f=some ⟨oc,od,.func (PySem.W.fnOf x x (bN st) (bj st) (aj st) .none kV doc pm an cdv ct),osl⟩) (c:PySem.W.codeIn K cdv x=true) (k:PySem.W.keepIn K (.ref f)=true):b3 K mg x st:=
 ⟨f,_,kT l c k,PySem.W.mg_of X G a⟩
section
variable {P:Program} {w:World} {K:PySem.W.Frag} {mg:Str→Option Value} {base:Heap} {CX:dF}
theorem b3.fn {x:Str} {st:Stmt} {N ps:List Str} {k:Nat} {sp:Sp} (F:b3 K mg x st) (S:bb N ps (aj st))
  (hb: ∀(kV doc pm:Value) (an:Option Addr) (cdv ct:Value) (us:List Value),us.length=ps.length→bindArgs (PySem.W.fnOf x x (bN st) (bj st) (aj st) .none kV doc pm an cdv ct) ⟨us,[]⟩=pure (ps.zip us))
  (len: ∀vs H Q E,sp vs H Q E→vs.length=ps.length)
  (
   hbody: ∀(f:Addr) (cdv:Value) (A:Around) (outer:List Env) (s:Shared) (H:Hp) (vs:List V) (Q:VK) (E:XK),bL k (A.deeper (envOfC x (aj st) s.heap.objs.size f cdv))→sp vs H Q E→
   ∃t,eI (eC CX P w K mg base N x (aj st) f cdv A outer s H E).nox (bj st) t∧t {nx:=fun _ H'=>Q .non H',rt:=Q} (start N vs) H):FnAt P w K mg base CX x (k+1) ps sp:=by
 obtain ⟨f,fd,F,hm⟩:=F
 have bd:=F.binds hb
 have kp:=F.kp
 obtain ⟨oc,od,kV,doc,pm,an,cdv,ct,osl,rfl,lk,hcd⟩:=F.ex
 refine ⟨f,_,kW lk hcd S len fun A outer s H vs Q E hr hsp=>?_,hm,kp,bd,oc,od,osl,lk⟩
 obtain ⟨t,h,q⟩:=hbody f cdv A outer s H vs Q E hr hsp
 exact ⟨t,h.nox,q⟩
end
section
variable {X:Cx} {CX:dF} {k n:Nat} {ps:List Str} {sp:Sp} {x:Str} {p pos:Pos} {e:Expr} {es:List Expr} {t:TA}
theorem qm [Quiet CX] (G:FnAt X.prog X.w X.K X.mg X.base CX x k ps sp) (hr:bL n X.A) (hk:k≤n) (hg:Gl X x) (ha:PA X (e::es) t)
  (hdb:(x == ("__debug__" : Str))=false:=by decide) (he:starEach (e::es) X.env=(false,eval e X.env)::starEach es X.env:=by rfl) (hpl:(backTo pos (starEach es X.env)).any (·.1)=false:=by rfl):
  PE X (.Call (.Name x p) (e::es) [] pos) (iu sp [] E0 t):=by
 obtain ⟨f,fd,F,hm,kp,b,_⟩:=G
 exact mw F (hr.mono hk) hg hm kp b .nil (Quiet.pass X) ha hdb he hpl
def nJ (mg:Str→Option Value) (x:Str) (v:V):Prop:= ∃u,mg x=some u∧RelV v u
theorem g7 {v:V} (hg:Gl X x) (h:nJ X.mg x v) (hd:(x == ("__debug__" : Str))=false:=by decide):PE X (.Name x pos) (tC v):=by
 obtain ⟨u,hm,r⟩:=h
 exact iG hg hm r hd
end
noncomputable def ik (lo c:Int) (n:Nat):It:=⟨fun i _=>i<n,fun i H x H'=>H'=H∧x = .int (lo+i*c),fun i _=>n≤i⟩
theorem fX {P:Program} {w:World} {K:PySem.W.Frag} {tg:Expr} (it:Addr) (lo c:Int) (n:Nat):Turn P w K tg (ik lo c n) [it] it (fun i h=>IsRangeIter h it (lo+(i:Nat)*c) ((n:Int) - (i:Nat)) c) where
 mem:=by simp
 obj:=fun i h st b hb=>by
  have e:b=it:=by simpa using hb
  subst e
  exact ⟨_,st,fun v z=>by
   have z':Data.fields _=Data.cell v:=z
   cases z'⟩
 keep:=fun i h h' st k=>k it (by simp) _ st
 item:=by
  intro X hP hw hK hc i pins s σ H E I hf st hg
  subst hP hw hK
  obtain ⟨f0,f1,f2,f3,f4,f5⟩:=hf it (by simp)
  have W:=Walks.range (prog:=X.prog) (w:=X.w) (I.ok.hd hc) it lo c n
  refine W.item i s _ _ hg st fun v h' tk hv st' kk=>?_
  obtain ⟨t,rfl⟩:=hv
  have I1:Inv X pins σ H {s with heap:=h',toks:=tk}:=I.turned (fun b o hb e=>kk b o (by simpa using hb) e) f0 f1 f3 f4 f5
  exact ⟨_,rfl,gv (s:={s with heap:=h',toks:=tk}) (n:="range_iterator") st' rfl rfl (by decide) ⟨.int (lo+i*c),H,I1,⟨t,rfl⟩,⟨rfl,rfl⟩,st',fun b hb=>(hf b hb).1⟩⟩
 done:=by
  intro X hP hw hK hc i pins s σ H E I hf st hg
  subst hP hw hK
  obtain ⟨f0,f1,f2,f3,f4,f5⟩:=hf it (by simp)
  exact wpAny_pyNext_range_end (I.ok.hd hc) st (by have:n≤i:=hg;omega) fun h' eb=>⟨rfl,I.turned (t':=s.toks) (fun b o hb e=>eb b o hb e) f0 f1 f3 f4 f5⟩
 self:=fun _ _ _ _ _ st h=>wpAny_pyIter_rangeiter st h
noncomputable def rcount (lo hi c:Int):Nat:=(Builtin.Range.rangeSize lo hi c).toNat
section
variable {X:Cx} {tg:Expr}
end
section
variable {g:Int→Int→V} {C:Int→Int→Prop} {i j:Int} {H:Hp} {Q:VK}
theorem md:mf g (.int i) (.int j) H Q=Q (g i j) H:=by
 apply propext
 constructor
 ·
  rintro ⟨a,b,e1,e2,q⟩
  cases e1;cases e2;exact q
 ·intro q;exact ⟨i,j,rfl,rfl,q⟩
theorem oq:rI C g (.int i) (.int j) H Q=(C i j∧Q (g i j) H):=by
 apply propext
 constructor
 ·
  rintro ⟨a,b,e1,e2,q⟩
  cases e1;cases e2;exact q
 ·intro q;exact ⟨i,j,rfl,rfl,q⟩
theorem og {f:Int→V}:rU f (.int i) H Q=Q (f i) H:=by
 apply propext
 constructor
 ·
  rintro ⟨a,e1,q⟩
  cases e1;exact q
 ·intro q;exact ⟨i,rfl,q⟩
theorem qH {b:Bool} {P:Bool→Prop}:(∃k,V.bl b = .bl k∧P k)=P b:=by
 apply propext
 constructor
 ·
  rintro ⟨k,e,q⟩
  cases e;exact q
 ·intro q;exact ⟨b,rfl,q⟩
theorem qF {v:V} {P:V→Prop}:(∃u,some (some v)=some (some u)∧P u)=P v:=by
 apply propext
 constructor
 ·
  rintro ⟨k,e,q⟩
  cases e;exact q
 ·intro q;exact ⟨v,rfl,q⟩
theorem fw:ou (.int i) (.int j) H Q=Q (.bl (decide (i=j))) H:=by
 have e:decide (V.int i=V.int j)=decide (i=j):=by
  by_cases h:i=j
  ·subst h;simp
  ·rw [decide_eq_false h,decide_eq_false (fun q=>h (V.int.inj q))]
 unfold ou
 rw [e]
 apply propext
 exact ⟨fun h=>h.2,fun h=>⟨rfl,h⟩⟩
theorem fu:oh (.int i) (.int j) H Q=Q (.bl (!decide (i=j))) H:=by
 have e:decide (V.int i=V.int j)=decide (i=j):=by
  by_cases h:i=j
  ·subst h;simp
  ·rw [decide_eq_false h,decide_eq_false (fun q=>h (V.int.inj q))]
 unfold oh
 rw [e]
 apply propext
 exact ⟨fun h=>h.2,fun h=>⟨rfl,h⟩⟩
theorem fv {a b:Str}:ou (.str a) (.str b) H Q=Q (.bl (decide (a=b))) H:=by
 have e:decide (V.str a=V.str b)=decide (a=b):=by
  by_cases h:a=b
  ·subst h;simp
  ·rw [decide_eq_false h,decide_eq_false (fun q=>h (V.str.inj q))]
 unfold ou
 rw [e]
 apply propext
 exact ⟨fun h=>h.2,fun h=>⟨rfl,h⟩⟩
theorem ft {a b:Str}:oh (.str a) (.str b) H Q=Q (.bl (!decide (a=b))) H:=by
 have e:decide (V.str a=V.str b)=decide (a=b):=by
  by_cases h:a=b
  ·subst h;simp
  ·rw [decide_eq_false h,decide_eq_false (fun q=>h (V.str.inj q))]
 unfold oh
 rw [e]
 apply propext
 exact ⟨fun h=>h.2,fun h=>⟨rfl,h⟩⟩
theorem g0 {a b:Bool}:ou (.bl a) (.bl b) H Q=Q (.bl (decide (a=b))) H:=by
 have e:decide (V.bl a=V.bl b)=decide (a=b):=by
  by_cases h:a=b
  ·subst h;simp
  ·rw [decide_eq_false h,decide_eq_false (fun q=>h (V.bl.inj q))]
 unfold ou
 rw [e]
 apply propext
 exact ⟨fun h=>h.2,fun h=>⟨rfl,h⟩⟩
theorem gQ {a b:Bool}:oh (.bl a) (.bl b) H Q=Q (.bl (!decide (a=b))) H:=by
 have e:decide (V.bl a=V.bl b)=decide (a=b):=by
  by_cases h:a=b
  ·subst h;simp
  ·rw [decide_eq_false h,decide_eq_false (fun q=>h (V.bl.inj q))]
 unfold oh
 rw [e]
 apply propext
 exact ⟨fun h=>h.2,fun h=>⟨rfl,h⟩⟩
end
theorem cf.imp {X:Cx} {f:Value→Value→Sem Value} {r r':R2} (h:cf X f r) (i: ∀x y H Q,r' x y H Q→r x y H Q):cf X f r':=
 fun pins s σ H x y v u Q I rx ry q=>h pins s σ H x y v u Q I rx ry (i _ _ _ _ q)
theorem bK.imp {X:Cx} {f:Value} {r r':List V→Hp→VK→Prop} (h:bK X f r) (i: ∀xs H Q,r' xs H Q→r xs H Q):bK X f r':=
 fun pins s σ H xs us Q I rs q=>h pins s σ H xs us Q I rs (i _ _ _ q)
def e6 (K:PySem.W.Frag):R2:=fun x y H Q=>match x,y with
 | .int i,.int j=>Q (.int (i+j)) H
 | .str a,.str b=>a.length+b.length≤sizeLine∧Q (.str (a++b)) H
 | .ref l,.ref b=>ql (.ref l) (.ref b) H Q∨nr K (.ref l) (.ref b) H Q
 |_,_=>False
section
variable {X:Cx}
theorem mC:cf X (binaryOp .Add) (e6 X.K):=by
 refine cf.imp (oP.or (g9.or (oN.or mB))) fun x y H Q h=>?_
 unfold e6 at h
 split at h
 ·exact .inl ⟨_,_,rfl,rfl,h⟩
 ·exact .inr (.inl ⟨_,_,rfl,rfl,h⟩)
 ·exact .inr (.inr h)
 ·exact h.elim
def jL (i j:Int):Prop:=(0≤j∧j≤1000000)∧-(2 ^ 512)<i∧i<2 ^ 512
theorem jL.bits {i j:Int} (h:jL i j):(Builtin.Int.intBits i:Int)+j≤2 ^ 27:=by
 have hb:Builtin.Int.intBits i≤512:=by
  unfold Builtin.Int.intBits
  split
  ·omega
  ·
   rename_i hz
   have hz':i≠0:=fun q=>hz (by rw [q];rfl)
   have:i.natAbs.log2<512:=(Nat.log2_lt (by omega)).mpr (by have:=h.2;omega)
   omega
 have:=h.1.2
 omega
theorem c7:cf X (binaryOp .LShift) (rI jL fun i j=> .int (i*2 ^ j.toNat)):=oR fun _ _ _ _ _ _ _ hc q=>lshift_int hc.1.1 hc.bits q
end
def nK (i j:Int):Prop:=(0≤j∧j≤1000000)∧-(2 ^ 64)<i∧i<2 ^ 64
theorem iH {X:Cx}:cf X (binaryOp .Pow) (rI nK fun i j=> .int (i ^ j.toNat)):=oR fun _ _ _ _ _ _ _ hc q=>pow_int_small hc.1.1 hc.1.2 (by have:=hc.2;omega) q
def f_ (K:PySem.W.Frag):List V→Hp→VK→Prop:=fun xs H Q=>match xs with
 | [.str z]=>z.length≤sizeLine∧Q (.int z.length) H
 | [.ref p]=> ∃ys,(bP K H p ys∨c2 K H p ys)∧Q (.int ys.length) H
 |_=>False
section
variable {X:Cx}
theorem jI:bK X (.builtin "len") (f_ X.K):=by
 refine bK.imp (fP.or fO) fun xs H Q h=>?_
 unfold f_ at h
 split at h
 ·exact .inr ⟨_,rfl,h.1,h.2⟩
 ·
  obtain ⟨ys,h1,h2⟩:=h
  exact .inl ⟨_,ys,rfl,h1,h2⟩
 ·exact h.elim
def qd:List V→Hp→VK→Prop:=fun xs H Q=>match xs with
 | [.int i,.int j]=>Q (.int (if j<i then j else i)) H
 |_=>False
def qe:List V→Hp→VK→Prop:=fun xs H Q=>match xs with
 | [.int i,.int j]=>Q (.int (if i<j then j else i)) H
 |_=>False
noncomputable def qx:V→String→Option Bool
 | .int _,"int" =>some true
 | .int _,"bool" =>some false
 | .int _,"str" =>some false
 | .bl _,"int" =>some true
 | .bl _,"bool" =>some true
 | .str _,"str" =>some true
 | .str _,"int" =>some false
 |_,_=>none
def eP (K:PySem.W.Frag):List V→Hp→VK→Prop:=fun xs H Q=>match xs with
 | [x,.ty T]=>(match qx x T with
  |some b=>Q (.bl b) H
  |none=> ∃t b,dE K H x t∧PySem.W.kitOne K t (.type T)=some b∧Q (.bl b) H)
 |_=>False
theorem oX (K:PySem.W.Frag):PySem.W.kitOne K (.type "int") (.type "int")=some true:=by first|rfl|kernel_rfl
theorem oY (K:PySem.W.Frag):PySem.W.kitOne K (.type "int") (.type "bool")=some false:=by first|rfl|kernel_rfl
theorem kit_is (K:PySem.W.Frag):PySem.W.kitOne K (.type "int") (.type "str")=some false:=by first|rfl|kernel_rfl
theorem oZ (K:PySem.W.Frag):PySem.W.kitOne K (.type "bool") (.type "int")=some true:=by first|rfl|kernel_rfl
theorem o1 (K:PySem.W.Frag):PySem.W.kitOne K (.type "bool") (.type "bool")=some true:=by first|rfl|kernel_rfl
theorem oV (K:PySem.W.Frag):PySem.W.kitOne K (.type "str") (.type "str")=some true:=by first|rfl|kernel_rfl
theorem oW (K:PySem.W.Frag):PySem.W.kitOne K (.type "str") (.type "int")=some false:=by first|rfl|kernel_rfl
theorem lj:bK X (.builtin "isinstance") (eP X.K):=by
 intro pins s σ H xs us Q I rs q
 unfold eP at q
 split at q
 ·
  rename_i x T
  obtain ⟨u,c,rfl,ru,rc⟩:=vals2 rs
  obtain rfl:c=Value.type T:=rc
  have key: ∀{t b},dE X.K H x t→PySem.W.kitOne X.K t (.type T)=some b→Q (.bl b) H→wpAny (model X.prog X.w) X.A (call (.builtin "isinstance") [u,.type T]) (EP X pins σ Q) X.xe s:=fun {t b} ty e h=>
   jy I ru ty e fun tk=>⟨.bl b,H,I.tok tk,rfl,h⟩
  split at q
  ·
   rename_i b e
   have h:=q
   unfold qx at e
   split at e<;>cases e
   ·exact key (.int _) (oX _) h
   ·exact key (.int _) (oY _) h
   ·exact key (.int _) (kit_is _) h
   ·exact key (.bl _) (oZ _) h
   ·exact key (.bl _) (o1 _) h
   ·exact key (.str _) (oV _) h
   ·exact key (.str _) (oW _) h
  ·
   obtain ⟨t,b,ty,e,h⟩:=q
   exact key ty e h
 ·exact q.elim
theorem iE {x:Str} {T:String} {pos:Pos} (hg:Gl X x) (hm:X.mg x=none) (hv:bootBuiltins x=some (.type T)) (hn:x≠ "__name__" :=by decide) (hd:(x == ("__debug__" : Str))=false:=by decide):PE X (.Name x pos) (tC (.ty T)):=
 mx hg hm hv rfl hn hd
end
theorem eE:bootBuiltins "len" = some (.builtin "len"):=by decide+kernel
theorem pM:bootBuiltins "all" = some (.builtin "all"):=by decide+kernel
theorem bg:bootBuiltins "isinstance" = some (.builtin "isinstance"):=by decide+kernel
theorem pL:bootBuiltins "int" = some (.type "int"):=by decide+kernel
theorem mX:bootBuiltins "bool" = some (.type "bool"):=by decide+kernel
theorem pK:bootBuiltins "str" = some (.type "str"):=by decide+kernel
section
variable {K:PySem.W.Frag} {H:Hp} {Q:VK}
theorem jn {i j:Int}:e6 K (.int i) (.int j) H Q=Q (.int (i+j)) H:=rfl
theorem c4 {i j:Str}:e6 K (.str i) (.str j) H Q=(i.length+j.length≤sizeLine∧Q (.str (i++j)) H):=rfl
theorem jg {z:Str}:f_ K [.str z] H Q=(z.length≤sizeLine∧Q (.int z.length) H):=rfl
theorem jh {p:Addr}:f_ K [.ref p] H Q=(∃ys,(bP K H p ys∨c2 K H p ys)∧Q (.int ys.length) H):=rfl
theorem l0 {i:Int}:eP K [.int i,.ty "int"] H Q=Q (.bl true) H:=rfl
theorem l5 {i:Int}:eP K [.int i,.ty "bool"] H Q=Q (.bl false) H:=rfl
theorem lZ {i:Int}:eP K [.int i,.ty "str"] H Q=Q (.bl false) H:=rfl
theorem l6 {i:Bool}:eP K [.bl i,.ty "int"] H Q=Q (.bl true) H:=rfl
theorem l7 {i:Bool}:eP K [.bl i,.ty "bool"] H Q=Q (.bl true) H:=rfl
theorem lX {i:Str}:eP K [.str i,.ty "str"] H Q=Q (.bl true) H:=rfl
theorem lY {i:Str}:eP K [.str i,.ty "int"] H Q=Q (.bl false) H:=rfl
theorem je {i j:Int}:qd [.int i,.int j] H Q=Q (.int (if j<i then j else i)) H:=rfl
theorem jf {i j:Int}:qe [.int i,.int j] H Q=Q (.int (if i<j then j else i)) H:=rfl
end
theorem pI {CX:dF} {P:Program} {w:World} {K:PySem.W.Frag} {mg:Str→Option Value} {base:Heap} {N:List Str} {qual:Str} {scope:Scope} {f:Addr} {cd:Value} {A:Around} {outer:List Env} {s:Shared} {H:Hp} {E:XK}:
  (eC CX P w K mg base N qual scope f cd A outer s H E).K=K:=rfl
section
variable {ta:TA} {tl:TE} {K:PySem.W.Frag} {g:TG} {tb:TS} {D:Ends} {σ:St} {H:Hp}
end
theorem law_fin {P:Program} {w:World} {K:PySem.W.Frag} {mg:Str→Option Value} {CX:dF} {k:Nat} {fa:Addr} {x nm:Str} {st:Stmt} {sp:Sp} (hmg:mg nm=some (.ref fa)) (D:b3 K mg nm st)
  (hb: ∀(kV doc pm:Value) (an:Option Addr) (cdv ct:Value) (us:List Value),us.length=([x]:List Str).length→bindArgs (PySem.W.fnOf nm nm (bN st) (bj st) (aj st) .none kV doc pm an cdv ct) ⟨us,[]⟩=pure (([x]:List Str).zip us))
  (ok: ∀base:Heap,FnAt P w K mg base CX nm k [x] sp):
  ∃fd:FuncData,(∀(s:Shared) (u:Value),BindsTo s fd ⟨[u],[]⟩ [(x,u)])∧∀base:Heap,K.In base→base.Ns mainGlobals mg→dZ P w K mg base CX k fa fd [x] sp:=by
 obtain ⟨f,fd,F,hm⟩:=D
 rw [hmg] at hm
 cases hm
 obtain ⟨oc,od,kV,doc,pm,an,cdv,ct,osl,e,lk,hcd⟩:=F.ex
 refine ⟨fd,fun s u=>?_,fun base _ _=>?_⟩
 ·
  rw [e]
  exact .of_eq (hb kV doc pm an cdv ct [u] rfl)
 ·
  obtain ⟨f',fd',h,hm',_,_,oc',od',osl',lk'⟩:=ok base
  rw [hmg] at hm'
  cases hm'
  rw [lk] at lk'
  cases lk'
  exact h
def eY (K:PySem.W.Frag):Sp:=fun vs H Q _=>match vs with
 | [.ref a]=> ∃ns:List Int,bP K H a (ns.map V.int)∧ns.length≤63∧lz H∧∀H',Q (.bl true) H'
 |_=>False
theorem kJ {l:PySem.W.OpenLaw} {k:Nat} {q:Program} {loose:List Str} {XP:(Str→Option Value)→Heap→Prop} {YP:World→Heap→Prop} {d:DefRec} {K:Params→PySem.W.Frag} {x:Str} (hn:l.most=some 63) (hdf:d.params.defaults= [])
  (hr:bL k callerA) (hY: ∀(w:World) (h:Heap),YP w h→(K w.params).In h)
  (
   F: ∀(w:World) (mg:Str→Option Value) (fa:Addr) (h:Heap),(K w.params).In h→h.Ns mainGlobals mg→mg d.name=some (.ref fa)→
   ∃fd:FuncData,(∀(s:Shared) (u:Value),BindsTo s fd ⟨[u],[]⟩ [(x,u)])∧∀base:Heap,(K w.params).In base→base.Ns mainGlobals mg→dZ l.prog w (K w.params) mg base pT k fa fd [x] (eY (K w.params))):
  PySem.W.WalkO q loose XP YP l.row.toRowW d [] (fun f vs=>PySem.call f vs):=
 L2.jM (n:=63) (CX:=pT) (sp:=eY) hn (by decide) hdf hr hY F (fun K H a ns hl hO hS=>⟨ns,hS,hl,hO,fun _=>rfl⟩) fun _ _ _ _ z=>z
noncomputable def Cx.comp (X:Cx) (scope:Scope) (cl:List (Str×Addr)) (C:Addr) (N:List Str) (s:Shared) (H:Hp) (ex:List Addr):Cx:=
 {prog:=X.prog,w:=X.w,K:=X.K,mg:=X.mg,base:=X.base,A:=X.A,N:=N,s₀:=s,H₀:=H,env:=compEnvC scope cl C X.env,outer:=X.stack,stack:=X.stack,ex:=ex,fn:=fun _=>false,calm:=X.calm,pn:=[],xe:=fun _ _=>False}
theorem h8 {env:Env} {scope:Scope} (h: ∀y∈scope.names,y.2 = .free→∃c,env.cells.lookup y.1=some c):
  ∃cl,closureFor scope env=pure cl∧(∀y c,cl.lookup y=some c→env.cells.lookup y=some c)∧∀y∈scope.names,y.2 = .free→∃c,cl.lookup y.1=some c:=by
 have key: ∀(l:List (Str×NameKind)) (acc:List (Str×Addr)),(∀y∈l,y.2 = .free→∃c,env.cells.lookup y.1=some c)→(∀y c,acc.lookup y=some c→env.cells.lookup y=some c)→
   ∃cl,(forIn l acc fun (x:Str×NameKind) (cs:List (Str×Addr))=>if (x.2 == NameKind.free)=true then do let a←cellOf env x.1;pure (ForInStep.yield ((x.1,a)::cs)) else pure (ForInStep.yield cs))=(pure cl:Sem (List (Str×Addr)))∧
    (∀y c,cl.lookup y=some c→env.cells.lookup y=some c)∧(∀y c,acc.lookup y=some c→∃c,cl.lookup y=some c)∧∀y∈l,y.2 = .free→∃c,cl.lookup y.1=some c:=by
  intro l
  induction l with
  |nil=>intro acc _ ha;exact ⟨acc,rfl,ha,fun y c e=>⟨c,e⟩,fun y hy=>nomatch hy⟩
  |cons x r ih=>
   intro acc hl ha
   obtain ⟨n,k⟩:=x
   by_cases hk:k = .free
   ·
    subst hk
    obtain ⟨c,hc⟩:=hl (n,.free) List.mem_cons_self rfl
    have ha': ∀y d,((n,c)::acc).lookup y=some d→env.cells.lookup y=some d:=fun y d e=>by
     simp only [List.lookup_cons] at e
     cases q:y == n with
     |true=>rw [q] at e;cases e;rw [beq_iff_eq.mp q];exact hc
     |false=>rw [q] at e;exact ha y d e
    obtain ⟨cl,e,h1,h2,h3⟩:=ih ((n,c)::acc) (fun y hy=>hl y (List.mem_cons_of_mem _ hy)) ha'
    have top: ∃d,cl.lookup n=some d:=h2 n c (by simp [List.lookup_cons])
    refine ⟨cl,?_,h1,fun y d q=>?_,fun y hy hf=>?_⟩
    ·
     rw [List.forIn_cons]
     have ec:cellOf env n=pure c:=by unfold cellOf;rw [hc]
     show ((if (NameKind.free == NameKind.free)=true then (do let a←cellOf env n;pure (ForInStep.yield ((n,a)::acc))) else _) >>= _)=_
     rw [if_pos (by decide),ec]
     exact e
    ·
     cases z:y == n with
     |true=>rw [beq_iff_eq.mp z];exact top
     |false=>exact h2 y d (by simp only [List.lookup_cons,z];exact q)
    ·
     rcases List.mem_cons.mp hy with rfl|hy
     ·exact top
     ·exact h3 y hy hf
   ·
    have hb:(k == NameKind.free)=false:=by simpa using hk
    obtain ⟨cl,e,h1,h2,h3⟩:=ih acc (fun y hy=>hl y (List.mem_cons_of_mem _ hy)) ha
    refine ⟨cl,?_,h1,h2,fun y hy hf=>?_⟩
    ·
     rw [List.forIn_cons]
     show ((if (k == NameKind.free)=true then _ else pure (ForInStep.yield acc)) >>= _)=_
     rw [hb,if_neg Bool.false_ne_true]
     exact e
    ·
     rcases List.mem_cons.mp hy with rfl|hy
     ·exact absurd hf hk
     ·exact h3 y hy hf
 obtain ⟨cl,e,h1,_,h3⟩:=key scope.names [] h (fun y c q=>by simp at q)
 refine ⟨cl,?_,h1,h3⟩
 unfold closureFor
 exact (bind_congr (fun _=>rfl)).trans (by rw [e];rfl)
theorem cB {scope:Scope} {env:Env} {x:Str} {k:NameKind} (h:(relabel scope env).names.lookup x=some k):scope.names.lookup x=some k∨(scope.names.lookup x=some .free∧k = .cell):=by
 unfold relabel at h
 have key: ∀l:List (Str×NameKind),(l.map fun (n,k)=>if (k == NameKind.free&&env.scope.kind == .function&&env.kindOf n == some .cell) then (n,NameKind.cell) else (n,k)).lookup x=some k→l.lookup x=some k∨(l.lookup x=some .free∧k = .cell):=by
  intro l
  induction l with
  |nil=>intro h;simp at h
  |cons y r ih=>
   obtain ⟨n,j⟩:=y
   intro h
   rw [List.map_cons] at h
   simp only [List.lookup_cons]
   cases q:x == n with
   |true=>
    by_cases hc:(j == NameKind.free&&env.scope.kind == .function&&env.kindOf n == some .cell)=true
    ·
     simp only [hc,if_true,List.lookup_cons,q] at h
     cases h
     have:j = .free:=by
      simp only [Bool.and_eq_true,beq_iff_eq] at hc
      exact hc.1.1
     subst this
     exact .inr ⟨rfl,rfl⟩
    ·
     have hc':(j == NameKind.free&&env.scope.kind == .function&&env.kindOf n == some .cell)=false:=by simpa using hc
     simp only [hc',Bool.false_eq_true,if_false,List.lookup_cons,q] at h
     exact .inl h
   |false=>
    by_cases hc:(j == NameKind.free&&env.scope.kind == .function&&env.kindOf n == some .cell)=true
    ·
     simp only [hc,if_true,List.lookup_cons,q] at h
     exact ih h
    ·
     have hc':(j == NameKind.free&&env.scope.kind == .function&&env.kindOf n == some .cell)=false:=by simpa using hc
     simp only [hc',Bool.false_eq_true,if_false,List.lookup_cons,q] at h
     exact ih h
 exact key _ h
theorem iJ {h:Heap} {b n:Addr} {o:Obj} (e:h.get? b=some o) (hn:h.objs.size≤n):b≠n:=Nat.ne_of_lt (Nat.lt_of_lt_of_le (Heap.lt_size e) hn)
structure fU (X:Cx) (scope:Scope) (N:List Str) (nv:Nat) (ix:List Nat):Prop where
 kind:scope.kind = .function
 nocell: ∀y∈scope.names,y.2≠ .cell
 names: ∀y∈scope.names,y.2 = .local→scope.names.lookup y.1=some .local
 fre: ∀y∈scope.names,y.2 = .free→X.env.kindOf y.1=some .cell∨X.env.kindOf y.1=some .free
 len:N.length=nv+ix.length
 at_: ∀j y,N[nv+j]?=some y→∃i,ix[j]?=some i∧X.N[i]?=some y∧(X.env.kindOf y=some .cell∨X.env.kindOf y=some .free)∧scope.names.lookup y=some .free
noncomputable def bu (nv:Nat) (ix:List Nat) (σ:St):St:=List.replicate nv none++ix.map fun i=>(σ[i]?).join
section
variable {X:Cx} {pins:List (Addr×Obj)} {σ:St} {H:Hp} {s:Shared} {scope:Scope} {N:List Str} {nv:Nat} {ix:List Nat}
theorem h6 {h1:Heap} {tk:Nat} {cl:List (Str×Addr)} {fp:List Addr} {C D:Addr} {oD:Obj} (S:fU X scope N nv ix) (I:Inv X pins σ H s) (hcl: ∀y c,cl.lookup y=some c→X.env.cells.lookup y=some c)
  (hcl2: ∀y∈scope.names,y.2 = .free→∃c,cl.lookup y.1=some c) (hfp: ∀b∈fp,eJ X pins H b) (hob: ∀b∈fp,b<s.heap.objs.size)
  (hC:s.heap.objs.size≤C) (hD:s.heap.objs.size≤D) (hDC:D≠C) (old: ∀b o,s.heap.get? b=some o→h1.get? b=some o) {m:Str→Option Value} (hm:h1.Ns C m) (hoD:h1.get? D=some oD) (hdat: ∀v,oD.data≠ .cell v):
  Inv (X.comp scope cl C N s H fp) [(D,oD)] (bu nv ix σ) H {s with heap:=h1,toks:=tk}:=by
 refine ⟨⟨I.ok.mod,S.kind,I.ok.glob,I.ok.blt,hC,fun x y c e1 e2=>I.ok.inj x y c (hcl x c e1) (hcl y c e2),fun x hx=>?_,fun _ _ z=>absurd z Bool.false_ne_true,I.ok.hd,I.ok.frames,.inl rfl,fun b hb=>⟨fun z=>?_,fun x c e=>(hfp b hb).2.2.2.2.1 x c (hcl x c e)⟩,I.bs,
  Nat.le_trans I.ok.bsz I.sz,fun b o e hb=>?_,fun b hb z=>?_,I.stack,I.d0⟩,rfl,I.bare,Un.kept old,⟨m,hm,fun i x v e1 e2 e3=>?_⟩,fun x c e=>?_,I.hok.fresh hC,fun x c e=>I.b2 x c (hcl x c e),fun p hp=>?_,I.hok.kept old,?_⟩
 ·
  have hx':(relabel scope X.env).names.lookup x=some .cell∨(relabel scope X.env).names.lookup x=some .free:=hx
  have fr:scope.names.lookup x=some .free:=by
   rcases hx' with z|z
   ·
    rcases cB z with q|q
    ·exact absurd rfl (S.nocell _ (PySem.mem_of_lookup q))
    ·exact q.1
   ·
    rcases cB z with q|q
    ·exact q
    ·cases q.2
  exact hcl2 (x,.free) (PySem.mem_of_lookup fr) rfl
 ·exact Nat.ne_of_lt (Nat.lt_of_lt_of_le (hob b hb) hC) z
 ·
  rcases (hfp b hb).2.2.2.1 with z|z
  ·exact I.ok.noex b o e z
  ·exact iJ e (Nat.le_trans I.ok.bsz z) rfl
 ·
  rcases List.mem_cons.mp (I.d7 b z) with q|q
  ·exact (hfp b hb).2.1 q
  ·exact (hfp b hb).2.2.1 q
 ·
  have e1':N[i]?=some x:=e1
  by_cases hi:i<nv
  ·
   have e2':(bu nv ix σ)[i]?=some (some v):=e2
   unfold bu at e2'
   rw [List.getElem?_append_left (by simpa using hi),List.getElem?_replicate,if_pos hi] at e2'
   cases e2'
  ·
   obtain ⟨j,rfl⟩: ∃j,i=nv+j:=⟨i - nv,by omega⟩
   obtain ⟨k,hk,hN,hkd,hsc⟩:=S.at_ j x e1'
   have e2':(bu nv ix σ)[nv+j]?=some (some v):=e2
   unfold bu at e2'
   rw [List.getElem?_append_right (by simp),List.length_replicate,Nat.add_sub_cancel_left,List.getElem?_map,hk] at e2'
   have e4:σ[k]?=some (some v):=by
    have e5:(σ[k]?).join=some v:=by simpa using e2'
    cases q:σ[k]? with
    |none=>rw [q] at e5;cases e5
    |some z=>rw [q] at e5;have:z=some v:=e5;rw [this]
   obtain ⟨m0,_,hl⟩:=I.loc
   have vis:qS X.env.scope x:=by
    rcases hkd with z|z
    ·exact .inr (.inl z)
    ·exact .inr (.inr z)
   obtain ⟨u,r,l⟩:=hl k x v hN e4 vis
   refine ⟨u,r,?_⟩
   rcases l with ⟨z,_⟩|⟨_,c,hc,hcell⟩
   ·rcases hkd with q|q<;>rw [q] at z<;>cases z
   ·
    obtain ⟨c',hc'⟩:=hcl2 (x,.free) (PySem.mem_of_lookup hsc) rfl
    have:=hcl x c' hc'
    rw [hc] at this
    cases this
    refine .inr ⟨?_,c,hc',hcell.keeps old⟩
    rcases e3 with z|z|z
    ·
     rcases cB z with q|q
     ·rw [hsc] at q;cases q
     ·cases q.2
    ·exact .inl z
    ·exact .inr z
 ·
  obtain ⟨v,q⟩:=I.cell x c (hcl x c e)
  exact ⟨v,q.keeps old⟩
 ·
  have hp':p∈[(D,oD)]:=hp
  have e:p=(D,oD):=by simpa using hp'
  subst e
  refine ⟨hoD,I.hok.fresh hD,hDC,fun z=>?_,hdat⟩
  rcases List.mem_cons.mp (I.d7 D z) with q|q
  ·exact Nat.ne_of_gt (Nat.lt_of_lt_of_le I.lt hD) q
  ·exact I.nofs hD q
 ·
  show (bu nv ix σ).length=N.length
  unfold bu
  rw [List.length_append,List.length_replicate,List.length_map,S.len]
theorem lg {cl:List (Str×Addr)} {fp:List Addr} {C D:Addr} {its:List Value} {ys:List V} {n:Nat} {σ':St} {H':Hp} {s':Shared} (I:Inv X pins σ H s) (hfp: ∀b∈fp,eJ X pins H b) (hD:s.heap.objs.size≤D)
  (J:Inv (X.comp scope cl C N s H fp) [(D,{cls:= .type "list",data:= .seq its.toArray n})] σ' H' s') (r:Vals ys its) (hl:ys.length≤sizeLine):Inv X pins σ (upd H' D (.lst ys)) s':=by
 obtain ⟨eD,fD,_⟩:=J.pin (D,{cls:= .type "list",data:= .seq its.toArray n}) (by simp [Cx.comp])
 have U:Un (frs X.stack) fp H H' s.heap s'.heap:=J.base
 have neD: ∀b o,s.heap.get? b=some o→b≠D:=fun b o e=>iJ e hD
 refine I.call' (ch:=fp) J.os ⟨U.keep,U.slot,fun b o e n hx=>?_,U.there,fun b xs e=>?_,fun b o xs e=>?_,fun b ps e=>?_⟩ (fun b u e=>?_) J.bare fun b hb=>(hfp b hb).2.2.2 |> fun z=>⟨z.1,(hfp b hb).2.1,z.2.1,z.2.2⟩
 ·rw [af (neD b o e)];exact U.free b o e n hx
 ·
  have q:=U.tups b xs e
  rw [af (aE q fD)];exact q
 ·
  have q:=U.frzs b o xs e
  rw [af (aE q fD)];exact q
 ·
  obtain ⟨more,q⟩:=U.tbls b ps e
  exact ⟨more,by rw [af (aE q fD)];exact q⟩
 ·
  by_cases hb:b=D
  ·
   subst hb
   rw [ak] at e
   cases e
   exact ⟨hl,its,n,r,eD⟩
  ·
   rw [af hb] at e
   exact (J.hok b u e).stay (fun c v _ q=>q) (fun c q=>by rw [af (aE q fD)];exact q) fun c xs q=>by rw [af (aE q fD)];exact q
end
section
variable {prog:Program} {w:World} {A:Around} {E:Value→Shared→Prop} {R:Result→Shared→Prop} {s:Shared}
theorem fN {elt target iter:Expr} {ifs:List Expr} {scope:Scope} {pos:Pos} {it acc:Value} {env:Env} (I:Nat→Shared→Prop)
  (
   turn: ∀n s,I n s→wpAny (model prog w) A (pyNext it) (fun r s₁=>match r with
   |none=>R (.ok .next) s₁
   |
     some v=>wpAny (model prog w) A (letOwnedTupleGo target it v) (fun _ s₀=>wpAny (model prog w) A (assign target env v) (fun _ s₂=>
     wpAny (model prog w) A (forIn ifs true fun c r=>if r=true then do let ok←isTrue c env (eval c env);pure (ForInStep.yield ok) else pure (ForInStep.yield r)) (fun ok s₃=>
      if ok=true then wpAny (model prog w) A (eval elt env) (fun x s₄=>
       wpAny (model prog w) A (call (.builtin "list.append") [acc,x]) (fun _ s₅=> ∃m,m<n∧I m s₅) (fun _ _=>False) s₄) (fun _ _=>False) s₃
      else∃m,m<n∧I m s₃) (fun _ _=>False) s₂) (fun _ _=>False) s₀) (fun _ _=>False) s₁) (fun _ _=>False) s)
  (n:Nat) (h:I n s):
  codeAny (model prog w) A (.compLoop (.ListComp elt [⟨target,iter,ifs,0⟩] scope pos) 0 it acc env) R s:=by
 refine codeAny_loop rfl I (fun n s hI=>?_) n h
 show wpAny _ A ((compTurn (.ListComp elt [⟨target,iter,ifs,0⟩] scope pos) 0 it acc env).onRaise (fun x=>do noteFrame x env;theTreesLotGoes x)) _ _ s
 refine wpAny_noted ?_
 rw [compTurn_list]
 refine wpAny_bind (wpAny_standAt (wpAny_bind (wpAny_mono (turn n s hI) (fun r s₁ h₁=>?_) fun _ _ h'=>h'.elim)))
 cases r with
 |none=>exact wpAny_pure h₁
 |some v=>
  refine wpAny_bind (wpAny_mono h₁ (fun _ s₀ h₀=>?_) fun _ _ h'=>h'.elim)
  refine wpAny_bind (wpAny_mono h₀ (fun _ s₂ h₂=>wpAny_bind (wpAny_mono h₂ (fun ok s₃ h₃=>?_) fun _ _ h'=>h'.elim)) fun _ _ h'=>h'.elim)
  cases ok with
  |false=>exact wpAny_pure ⟨rfl,h₃⟩
  |true=>
   exact wpAny_bind (wpAny_bind (wpAny_mono h₃ (fun x s₄ h₄=>wpAny_bind (wpAny_mono h₄ (fun _ s₅ h₅=>wpAny_pure (wpAny_pure ⟨rfl,h₅⟩)) fun _ _ h'=>h'.elim)) fun _ _ h'=>h'.elim))
end
def pU:TT:=fun _ H Q=>Q true H
def cX (J:It) (g:TG) (tt:TT) (te:TE) (σ₀:St) (H1:Hp) (Q:List V→Hp→Prop):Prop:=
 ∃W:Nat→Nat→List V→St→Hp→Prop,(∃m,W 0 m [] σ₀ H1)∧∀i m ys σ' H',W i m ys σ' H'→
  (
   J.stop i H'∧Q ys H')∨(J.go i H'∧ys.length<sizeLine∧∃N:List V→St→Hp→Prop,(∀ys' σ'' H'',N ys' σ'' H''→∃m',m'<m∧W (i+1) m' ys' σ'' H'')∧
   ∀x H'',J.yld i H' x H''→g x σ' H'' fun σ2 H2=>tt σ2 H2 fun b H3=>if b=true then te σ2 H3 fun y H4=>N (ys++ [y]) σ2 H4 else N ys σ2 H3)
def eX (nv:Nat) (ix:List Nat) (wi:TI) (g:TG) (tt:TT) (te:TE):TE:=fun σ H Q=>wi σ H fun J H1=>cX J g tt te (bu nv ix σ) H1 fun ys H'=>ys.length≤sizeLine∧∀D,H' D=none→Q (.ref D) (upd H' D (.lst ys))
section
variable {X:Cx} {tg elt iter:Expr} {ifs:List Expr} {scope:Scope} {N:List Str} {nv:Nat} {ix:List Nat} {pos spos:Pos} {wi:TI} {g:TG} {tt:TT} {te:TE}
def qV (X:Cx) (ifs:List Expr) (tt:TT):Prop:=
 ∀(pins:List (Addr×Obj)) (s:Shared) (σ:St) (H:Hp) (Q:Bool→Hp→Prop),Inv X pins σ H s→tt σ H Q→
  wpAny (model X.prog X.w) X.A (forIn ifs true fun c r=>if r=true then do let ok←isTrue c X.env (eval c X.env);pure (ForInStep.yield ok) else pure (ForInStep.yield r)) (TP X pins σ Q) X.xe s
theorem iD:qV X [] pU:=fun _ _ _ H _ I h=>wpAny_tests_nil ⟨H,I,h⟩
theorem mm {c:Expr} (h:PT X c tt):qV X [c] tt:=fun pins s σ H Q I hw=>wpAny_tests_one (h pins s σ H Q I hw)
theorem jH {use:Option (Value→Sem Unit)} {Qv:Value→Shared→Prop} {pins:List (Addr×Obj)} {s:Shared} {σ:St} {H:Hp} {Q:List V→Hp→Prop} (hc:X.calm=true) (S:fU X scope N nv ix) (hi:PI X tg iter wi)
  (hg: ∀cl C s H ex,PG (X.comp scope cl C N s H ex) tg g) (ht: ∀cl C s H ex,qV (X.comp scope cl C N s H ex) ifs tt) (he: ∀cl C s H ex,PE (X.comp scope cl C N s H ex) elt te) (I:Inv X pins σ H s)
  (h:wi σ H fun J H1=>cX J g tt te (bu nv ix σ) H1 fun ys H'=>ys.length≤sizeLine∧Q ys H')
  (fin: ∀ys D C H' s' (s2:Shared) (σ2:St),Q ys H'→H' D=none→D≠C→Inv X pins σ (upd H' D (.lst ys)) s'→(∃m,s'.heap.Ns C m)→(∀H'',H'' C=none→eJ X pins H'' C)→H' C=none→compPost (model X.prog X.w) X.A X.xe use Qv (.ref D) C (.ok .next) s')
  (hs: ∀x,foldedSetIterable iter X.env x=pure x):
  wpAny (model X.prog X.w) X.A (comprehension (.ListComp elt [⟨tg,iter,ifs,0⟩] scope pos) scope X.env (firstIterPos [⟨tg,iter,ifs,0⟩] pos) (newList []) false (eval iter X.env) use) Qv X.xe s:=by
 obtain ⟨cl,hclos,hcl,hcl2⟩:=h8 (env:=X.env) (scope:=scope) fun y hy hf=>I.ok.has y.1 (S.fre y hy hf)
 refine wpAny_comprehension_free (use:=use) rfl hs hclos S.kind S.names (thn (hi pins s σ H _ I h) fun v s1 h1=>thn h1 fun itv s2 h2=>?_)
 obtain ⟨it,fp,tn,J,H2,e,I2,T,st2,f2,W,⟨m0,w0⟩,turn⟩:=h2
 subst e
 refine wpAny_newObj_type (wpAny_newFunctionEnv S.nocell (by intro y hy;simp at hy) (fun h₁ hns₁ hsb₁=>?_) S.kind)
 dsimp only at hns₁ hsb₁⊢
 generalize hH2:s2.heap.push {cls:= .type "list",dict:=none,data:= .seq ([]:List Value).toArray}=G2 at hns₁ hsb₁⊢
 have hC:G2.objs.size=s2.heap.objs.size+1:=by rw [←hH2,Heap.size_push]
 have hDC:s2.heap.objs.size≠G2.objs.size:=by rw [hC];exact Nat.ne_of_lt (Nat.lt_succ_self _)
 have old: ∀b o,s2.heap.get? b=some o→h₁.get? b=some o:=fun b o e=>hsb₁.extBut b o (iJ e (by rw [hC];exact Nat.le_succ _)) (Heap.get?_push_of_some _ (hH2▸Heap.get?_push_of_some _ e))
 have hacc:h₁.get? s2.heap.objs.size=some {cls:= .type "list",data:= .seq ([]:List Value).toArray 0}:=hsb₁.extBut _ _ hDC (Heap.get?_push_of_some _ (hH2▸Heap.get?_push_size _ rfl))
 have hob: ∀b∈fp,b<s2.heap.objs.size:=fun b hb=>by
  obtain ⟨o,e,_⟩:=T.obj _ _ st2 b hb
  exact Heap.lt_size e
 have hCle:s2.heap.objs.size≤G2.objs.size:=by rw [hC];exact Nat.le_succ _
 have I4: ∀tk,Inv (X.comp scope cl G2.objs.size N s2 H2 fp) [(s2.heap.objs.size,{cls:= .type "list",data:= .seq ([]:List Value).toArray 0})] (bu nv ix σ) H2 {s2 with heap:=h₁,toks:=tk}:=fun tk=>
  h6 S I2 hcl hcl2 f2 hob hCle (Nat.le_refl _) hDC old hns₁ hacc (fun v z=>by cases z)
 have hst₁:tn 0 h₁:=T.keep _ _ _ st2 fun b _ o e=>old b o e
 have stat: ∀{H':Hp} {pns:List (Addr×Obj)},(∀p∈pns,p.1=s2.heap.objs.size)→(∀b∈fp,H' b=none)→∀b∈fp,eJ (X.comp scope cl G2.objs.size N s2 H2 fp) pns H' b:=fun {H' pns} hp hn b hb=>by
  obtain ⟨f0,f1,f3,f4,f5,f6⟩:=f2 b hb
  have hlt:=hob b hb
  refine ⟨hn b hb,fun z=>?_,fun z=>?_,.inl hb,fun x c e=>f5 x c (hcl x c e),fun p hp' z=>?_⟩
  ·exact Nat.ne_of_lt (Nat.lt_of_lt_of_le hlt hCle) z
  ·
   rcases List.mem_cons.mp (I2.d7 b z) with q|q
   ·exact f1 q
   ·exact f3 q
  ·
   have hp'':p∈pns:=by simpa [Cx.comp] using hp'
   exact Nat.ne_of_gt (by rw [hp p hp''];exact hlt) z
 have loop: ∀s₃:Shared,s₃={s2 with heap:=h₁,toks:=s2.toks+([]:List (Str×Value)).length}→
   codeAny (model X.prog X.w) X.A (.compLoop (.ListComp elt [⟨tg,iter,ifs,0⟩] scope pos) 0 (.ref it) (.ref s2.heap.objs.size) (compEnvC scope cl G2.objs.size X.env))
    (compPost (model X.prog X.w) X.A X.xe use Qv (.ref s2.heap.objs.size) G2.objs.size) s₃:=by
  rintro s₃ rfl
  refine fN (fun n s'=> ∃i ys its σ' H',Inv (X.comp scope cl G2.objs.size N s2 H2 fp) [(s2.heap.objs.size,{cls:= .type "list",data:= .seq its.toArray its.length})] σ' H' s'∧tn i s'.heap∧(∀b∈fp,H' b=none)∧Vals ys its∧W i n ys σ' H') ?_ m0
   ⟨0,[],[],_,H2,I4 _,hst₁,fun b hb=>(f2 b hb).1,.nil,w0⟩
  rintro n s' ⟨i,ys,its,σ',H',I',st',fr',rv,w'⟩
  have pin1: ∀{o:Obj},∀p∈[(s2.heap.objs.size,o)],p.1=s2.heap.objs.size:=fun {o} p hp=>by
   exact congrArg Prod.fst (List.mem_singleton.mp hp)
  rcases turn i n ys σ' H' w' with ⟨stop,hl,qn⟩|⟨go,hlen,Nx,hN,step⟩
  ·
   refine thn (T.done (X.comp scope cl G2.objs.size N s2 H2 fp) rfl rfl rfl hc i _ s' σ' H' (fun _ _=>False) I' (stat pin1 fr') st' stop) fun r s4 ⟨hr,I5⟩=>?_
   subst hr
   obtain ⟨m5,hm5,_⟩:=I5.loc
   have fD:=(I5.pin (s2.heap.objs.size,{cls:= .type "list",data:= .seq its.toArray its.length}) (List.mem_append_right _ (by simp))).2.1
   exact fin ys _ _ H' s4 s2 σ' qn fD hDC (lg I2 f2 (Nat.le_refl _) I5 rv hl) ⟨m5,hm5⟩ (fun H'' hn=>I2.hX hCle hn) I5.free
  ·
   refine thn (T.item (X.comp scope cl G2.objs.size N s2 H2 fp) rfl rfl rfl hc i _ s' σ' H' (fun _ _=>False) I' (stat pin1 fr') st' go) fun r s4 ⟨u,hr,h4⟩=>?_
   subst hr
   refine thn h4 fun _ s5 ⟨x,H5,I5,r5,y5,st5,fr5⟩=>?_
   have I5':=I5.pinned (stat pin1 fr5) (T.obj _ _ st5)
   refine thn (hg _ _ _ _ _ _ s5 σ' H5 x u _ I5' r5 (step x H5 y5)) fun _ s6 ⟨σ6,H6,I6,q6⟩=>?_
   refine thn (ht _ _ _ _ _ _ s6 σ6 H6 _ I6 q6) fun b s7 ⟨H7,I7,q7⟩=>?_
   have back: ∀{σ8:St} {H8:Hp} {s8:Shared},Inv (X.comp scope cl G2.objs.size N s2 H2 fp) ([(s2.heap.objs.size,{cls:= .type "list",data:= .seq its.toArray its.length})]++ef fp s5.heap) σ8 H8 s8→tn (i+1) s8.heap∧∀b∈fp,H8 b=none:=fun {σ8 H8 s8} J=>
    ⟨
     T.keep _ _ _ st5 fun b hb o e=>(J.pin (b,o) (List.mem_append_right _ (List.mem_append_right _ (cF hb e)))).1,fun b hb=>by
     obtain ⟨o,e,d⟩:=T.obj _ _ st5 b hb
     exact (J.pin (b,o) (List.mem_append_right _ (List.mem_append_right _ (cF hb e)))).2.1⟩
   cases b with
   |false=>
    rw [if_neg Bool.false_ne_true] at q7
    obtain ⟨m',hm,w7⟩:=hN _ _ _ q7
    exact ⟨m',hm,i+1,ys,its,σ6,H7,I7.unpinned,(back I7).1,(back I7).2,rv,w7⟩
   |true=>
    rw [if_pos rfl] at q7
    refine thn (he _ _ _ _ _ _ s7 σ6 H7 _ I7 q7) fun y s8 ⟨yv,H8,I8,r8,q8⟩=>?_
    obtain ⟨eD,fD,nD,nfD,dD⟩:=I8.pin (s2.heap.objs.size,{cls:= .type "list",data:= .seq its.toArray its.length}) (List.mem_append_right _ (by simp))
    refine append_at (hsz:=by rw [List.size_toArray,←rv.length];exact Nat.le_of_lt hlen) eD fun h₅ hs₅ hD₅=>?_
    obtain ⟨m',hm,w8⟩:=hN _ _ _ q8
    have fpD:s2.heap.objs.size ∉ fp:=fun z=>Nat.lt_irrefl _ (hob _ z)
    have I9:Inv (X.comp scope cl G2.objs.size N s2 H2 fp) [] σ6 H8 s8:=I8.d2 fun p hp=>absurd hp (by simp)
    have fk:=I2.hX (H':=H8) (Nat.le_refl _) fD
    have I10:Inv (X.comp scope cl G2.objs.size N s2 H2 fp) [] σ6 H8 {s8 with heap:=h₅,toks:=s8.toks}:=
     I9.turned (it:=s2.heap.objs.size) (fun b o hb e=>hs₅.extBut b o hb e) fD nD (.inr (Nat.le_refl _)) (fun x c e=>fk.2.2.2.2.1 x c (hcl x c e)) (fun p hp=>absurd hp (by simp [Cx.comp]))
    refine ⟨m',hm,i+1,ys++ [yv],its++ [y],σ6,H8,I10.d2 fun p hp=>?_,?_,(back I8).2,rv.append (.cons r8 .nil),w8⟩
    ·
     have e:p=(s2.heap.objs.size,{cls:= .type "list",data:= .seq (its++ [y]).toArray (its++ [y]).length}):=by simpa using hp
     subst e
     refine ⟨?_,fD,nD,nfD,fun v z=>by cases z⟩
     show h₅.get? s2.heap.objs.size=_
     rw [hD₅,List.push_toArray,List.length_append,List.length_singleton]
    ·exact T.keep _ _ _ (back I8).1 fun b hb o e=>hs₅.extBut b o (fun z=>fpD (by have z':b=s2.heap.objs.size:=z;rw [←z'];exact hb)) e
 exact codeAny_compStart_list (loop _ rfl) (T.self _ 0 _ _ _ hst₁ (loop _ rfl))
theorem fF (hc:X.calm=true) (S:fU X scope N nv ix) (hi:PI X tg iter wi)
  (hg: ∀cl C s H ex,PG (X.comp scope cl C N s H ex) tg g) (ht: ∀cl C s H ex,qV (X.comp scope cl C N s H ex) ifs tt) (he: ∀cl C s H ex,PE (X.comp scope cl C N s H ex) elt te)
  (hs: ∀x,foldedSetIterable iter X.env x=pure x:=by intro _;rfl):PE X (.ListComp elt [⟨tg,iter,ifs,0⟩] scope pos) (eX nv ix wi g tt te):=by
 intro pins s σ H Q I h
 rw [eval_ListComp]
 refine jH (Q:=fun ys H'=> ∀D,H' D=none→Q (.ref D) (upd H' D (.lst ys))) (use:=none) hc S hi hg ht he I ?_ (fun ys D C H' s' s2 σ2 q fD hDC J hm fk fC=>?_) hs
 ·exact h
 ·
  obtain ⟨m,hm⟩:=hm
  refine ⟨m,hm,fun h' sb=>⟨.ref D,_,?_,rfl,q D fD⟩⟩
  have fC':upd H' D (.lst ys) C=none:=by rw [af (Ne.symm hDC)];exact fC
  obtain ⟨f0,f1,f2,f3,f4,f5⟩:=fk _ fC'
  exact J.turned (t':=s'.toks) (it:=C) (fun b o hb e=>sb.extBut b o hb e) f0 f1 f3 f4 f5
end
noncomputable def rB (x:Str):It:=⟨fun i _=>i<x.cps.size,fun i H v H'=>H'=H∧∃c,x.cps[i]?=some c∧v = .str ⟨#[c]⟩,fun i _=>x.cps.size≤i⟩
theorem fW {P:Program} {w:World} {K:PySem.W.Frag} {tg:Expr} (it:Addr) (x:Str) (t:Tok) (T:String) (hT:T = "str_ascii_iterator" ∨T = "str_iterator"):Turn P w K tg (rB x) [it] it (fun i h=>h.IsStrIter it T x t i) where
 mem:=by simp
 obj:=fun i h st b hb=>by
  have e:b=it:=by simpa using hb
  subst e
  obtain ⟨o,e,c,d⟩:=st
  exact ⟨o,e,fun v z=>by rw [d] at z;cases z⟩
 keep:=fun i h h' st k=>by
  obtain ⟨o,e,r⟩:=st
  exact ⟨o,k it (by simp) o e,r⟩
 item:=by
  intro X hP hw hK hc i pins s σ H E I hf st hg
  subst hP hw hK
  obtain ⟨f0,f1,f2,f3,f4,f5⟩:=hf it (by simp)
  have hg':i<x.cps.size:=hg
  have W:Walks X.prog X.w X.A it [it] [it] x.cps.size (SignAt x) (fun i h=>h.IsStrIter it T x t i):=by
   rcases hT with rfl|rfl
   ·exact Walks.strAscii (I.ok.hd hc) it x t
   ·exact Walks.strWide (I.ok.hd hc) it x t
  refine W.item i s _ _ hg' st fun v h' tk hv st' kk=>?_
  obtain ⟨c,u,hcx,rfl⟩:=hv
  have I1:Inv X pins σ H {s with heap:=h',toks:=tk}:=I.turned (fun b o hb e=>kk b o (by simpa using hb) e) f0 f1 f3 f4 f5
  obtain ⟨o,e,c',d⟩:=id st'
  refine ⟨_,rfl,gv (s:={s with heap:=h',toks:=tk}) e c' d (by rcases hT with rfl|rfl<;>decide) ⟨.str ⟨#[c]⟩,H,I1,⟨u,rfl⟩,⟨rfl,c,hcx,rfl⟩,st',fun b hb=>(hf b hb).1⟩⟩
 done:=by
  intro X hP hw hK hc i pins s σ H E I hf st hg
  subst hP hw hK
  obtain ⟨f0,f1,f2,f3,f4,f5⟩:=hf it (by simp)
  have hg':x.cps.size≤i:=hg
  have he:x.cps[i]?=none:=by simp [hg']
  rcases hT with rfl|rfl
  ·exact wpAny_pyNext_ascii_end (I.ok.hd hc) st he fun h' eb=>⟨rfl,I.turned (t':=s.toks) (fun b o hb e=>eb b o hb e) f0 f1 f3 f4 f5⟩
  ·exact wpAny_pyNext_wide_end (I.ok.hd hc) st he fun h' eb=>⟨rfl,I.turned (t':=s.toks) (fun b o hb e=>eb b o hb e) f0 f1 f3 f4 f5⟩
 self:=fun _ _ _ _ _ st h=>by
  rcases hT with rfl|rfl
  ·exact wpAny_pyIter_striter_ascii st h
  ·exact wpAny_pyIter_striter_wide st h
def i4 (K:PySem.W.Frag) (x:V) (H1:Hp) (R:It→Hp→Prop):Prop:=match x with
 | .ref a=>(∃xs,bP K H1 a xs∧R (qM K a) H1)∨(∃xs,c2 K H1 a xs∧R (rL K a) H1)
 | .str z=>R (rB z) H1
 |_=>False
def mN (K:PySem.W.Frag) (tl:TE):TI:=fun σ H R=>tl σ H fun x H1=>i4 K x H1 R
theorem oA {X:Cx} {tg l:Expr} {tl:TE} (hl:PE X l tl):PI X tg l (mN X.K tl):=by
 intro pins s σ H R I h
 refine thn (hl pins s σ H _ I h) fun v s1 ⟨x,H1,I1,r1,q1⟩=>?_
 cases x with
 |ref a=>
  cases r1
  rcases q1 with ⟨xs,hq,q⟩|⟨xs,hq,q⟩
  ·
   obtain ⟨its,rv,p,hz⟩:=I1.list hq
   refine wpAny_pyIter_list p.isList ?_
   refine ⟨s1.heap.objs.size,[s1.heap.objs.size],_,_,H1,rfl,I1.kept (t':=s1.toks) fun b o e=>Heap.get?_push_of_some _ e,iX a _,⟨_,Heap.get?_push_size _ rfl,rfl,rfl⟩,fun b hb=>?_,q⟩
   have e:b=s1.heap.objs.size:=by simpa using hb
   subst e
   exact I1.hX (Nat.le_refl _) (I1.hok.fresh (Nat.le_refl _))
  ·
   obtain ⟨its,rv,p,hz⟩:=I1.tuple hq
   refine wpAny_pyIter_tuple (show s1.heap.IsTuple a its.toArray from p) ?_
   refine ⟨s1.heap.objs.size,[s1.heap.objs.size],_,_,H1,rfl,I1.kept (t':=s1.toks) fun b o e=>Heap.get?_push_of_some _ e,gI a _,⟨_,Heap.get?_push_size _ rfl,rfl,rfl⟩,fun b hb=>?_,q⟩
   have e:b=s1.heap.objs.size:=by simpa using hb
   subst e
   exact I1.hX (Nat.le_refl _) (I1.hok.fresh (Nat.le_refl _))
 |str z=>
  obtain ⟨t,rfl⟩:=r1
  have fp: ∀b∈[s1.heap.objs.size],eJ X pins H1 b:=fun b hb=>by
   have e:b=s1.heap.objs.size:=by simpa using hb
   subst e
   exact I1.hX (Nat.le_refl _) (I1.hok.fresh (Nat.le_refl _))
  cases ha:z.cps.all (· < 128)
  ·exact wpAny_pyIter_wide ha ⟨s1.heap.objs.size,[s1.heap.objs.size],_,_,H1,rfl,I1.kept (t':=s1.toks) fun b o e=>Heap.get?_push_of_some _ e,fW _ z t _ (.inr rfl),⟨_,Heap.get?_push_size _ rfl,rfl,rfl⟩,fp,q1⟩
  ·exact wpAny_pyIter_ascii ha ⟨s1.heap.objs.size,[s1.heap.objs.size],_,_,H1,rfl,I1.kept (t':=s1.toks) fun b o e=>Heap.get?_push_of_some _ e,fW _ z t _ (.inl rfl),⟨_,Heap.get?_push_size _ rfl,rfl,rfl⟩,fp,q1⟩
 |_=>exact q1.elim
def forR (J:It) (g:TG) (tb:TS) (D:Ends) (σ:St) (H:Hp):Prop:= ∃W:Nat→Nat→St→Hp→Prop,(∃m,W 0 m σ H)∧∀i m σ H,W i m σ H→
 (J.stop i H∧D.nx σ H)∨(J.go i H∧∃N:St→Hp→Prop,(∀σ' H',N σ' H'→∃m',m'<m∧W (i+1) m' σ' H')∧∀x H',J.yld i H x H'→g x σ H' fun σ2 H2=>tb {D with nx:=N,ct:=N,bk:=D.nx} σ2 H2)
section
variable {K:PySem.W.Frag} {tl:TE} {g:TG} {tb:TS} {D:Ends} {σ:St} {H:Hp} {tt:TT} {te:TE} {nv:Nat} {ix:List Nat} {Q:VK} {ta:TA}
theorem jP:jQ (mN K tl) g tb D σ H=tl σ H fun x H1=>i4 K x H1 fun J H2=>forR J g tb D σ H2:=rfl
theorem i1:eX nv ix (mN K tl) g tt te σ H Q=tl σ H fun x H1=>i4 K x H1 fun J H2=>cX J g tt te (bu nv ix σ) H2 fun ys H'=>ys.length≤sizeLine∧∀l,H' l=none→Q (.ref l) (upd H' l (.lst ys)):=rfl
def eZ (vs:List V) (H1:Hp) (R:It→Hp→Prop):Prop:=match vs with
 | [.int j]=>(-(2 ^ 62)≤j∧j<2 ^ 62)∧R (lD 0 j.toNat) H1
 |_=>False
def iy (vs:List V) (H1:Hp) (R:It→Hp→Prop):Prop:=match vs with
 | [.int i,.int j]=>(-(2 ^ 62)≤i∧i<2 ^ 62∧-(2 ^ 62)≤j∧j<2 ^ 62)∧R (lD i (j - i).toNat) H1
 |_=>False
def kN (ta:TA):TI:=fun σ H R=>ta σ H fun vs H1=>eZ vs H1 R
def nB (ta:TA):TI:=fun σ H R=>ta σ H fun vs H1=>iy vs H1 R
def iw (vs:List V) (H1:Hp) (R:It→Hp→Prop):Prop:=match vs with
 | [.int i,.int j,.int c]=>(-(2 ^ 61)≤i∧i<2 ^ 61∧-(2 ^ 61)≤j∧j<2 ^ 61∧0<c∧c<1000000)∧R (ik i c (rcount i j c)) H1
 |_=>False
def nA (ta:TA):TI:=fun σ H R=>ta σ H fun vs H1=>iw vs H1 R
theorem i0:jQ (kN ta) g tb D σ H=ta σ H fun vs H1=>eZ vs H1 fun J H2=>forR J g tb D σ H2:=rfl
theorem iZ:jQ (nB ta) g tb D σ H=ta σ H fun vs H1=>iy vs H1 fun J H2=>forR J g tb D σ H2:=rfl
theorem iY:jQ (nA ta) g tb D σ H=ta σ H fun vs H1=>iw vs H1 fun J H2=>forR J g tb D σ H2:=rfl
theorem gN:eX nv ix (kN ta) g tt te σ H Q=ta σ H fun vs H1=>eZ vs H1 fun J H2=>cX J g tt te (bu nv ix σ) H2 fun ys H'=>ys.length≤sizeLine∧∀l,H' l=none→Q (.ref l) (upd H' l (.lst ys)):=rfl
theorem gM:eX nv ix (nB ta) g tt te σ H Q=ta σ H fun vs H1=>iy vs H1 fun J H2=>cX J g tt te (bu nv ix σ) H2 fun ys H'=>ys.length≤sizeLine∧∀l,H' l=none→Q (.ref l) (upd H' l (.lst ys)):=rfl
theorem gL:eX nv ix (nA ta) g tt te σ H Q=ta σ H fun vs H1=>iw vs H1 fun J H2=>cX J g tt te (bu nv ix σ) H2 fun ys H'=>ys.length≤sizeLine∧∀l,H' l=none→Q (.ref l) (upd H' l (.lst ys)):=rfl
theorem i9 {j:Int} {R:It→Hp→Prop}:eZ [.int j] H R=((-(2 ^ 62)≤j∧j<2 ^ 62)∧R (lD 0 j.toNat) H):=rfl
theorem i8 {i j:Int} {R:It→Hp→Prop}:iy [.int i,.int j] H R=((-(2 ^ 62)≤i∧i<2 ^ 62∧-(2 ^ 62)≤j∧j<2 ^ 62)∧R (lD i (j - i).toNat) H):=rfl
theorem i7 {i j c:Int} {R:It→Hp→Prop}:iw [.int i,.int j,.int c] H R=((-(2 ^ 61)≤i∧i<2 ^ 61∧-(2 ^ 61)≤j∧j<2 ^ 61∧0<c∧c<1000000)∧R (ik i c (rcount i j c)) H):=rfl
end
section
variable {X:Cx} {tg:Expr}
theorem js {a:Expr} {ta:TA} {p pos:Pos} (hg:Gl X "range") (hm:X.mg "range" = none) (ha:PA X [a] ta) (hs:starEach [a] X.env= [(false,eval a X.env)]:=by rfl):PI X tg (.Call (.Name "range" p) [a] [] pos) (kN ta):=by
 intro pins s σ H R I h
 refine Call_ (fL I hg hm boot_range (PyProof.Rows.callWith_type1 (thn (ha pos pins s σ H _ I h) fun us s1 ⟨vs,H1,I1,r1,q1⟩=>?_) hs rfl))
 replace q1:eZ vs H1 R:=q1
 unfold eZ at q1
 split at q1
 ·
  obtain ⟨⟨q1,q2⟩,q⟩:=q1
  cases r1 with
  |cons r rr=>
   cases rr
   obtain ⟨t,rfl⟩:=r
   exact call_range_1 (j0 I1 (by omega) (by omega) q1 q2 (by simpa using q))
 ·exact q1.elim
end
section
variable {K:PySem.W.Frag} {g:TG} {tb:TS} {D:Ends} {σ:St} {H:Hp}
theorem mS {a:Addr} {xs:List V} (hS:bP K H a xs) (Pv:Nat→St→Hp→Prop) (h0:Pv 0 σ H) (hl: ∀i σ H,i≤xs.length→Pv i σ H→bP K H a xs)
  (hs: ∀i x σ H,xs[i]?=some x→Pv i σ H→g x σ H fun σ2 H2=>tb {D with nx:=Pv (i+1),ct:=Pv (i+1),bk:=D.nx} σ2 H2) (hd: ∀σ H,Pv xs.length σ H→D.nx σ H):
  i4 K (.ref a) H fun J H2=>forR J g tb D σ H2:= .inl ⟨xs,hS,kU Pv h0 hl hs hd⟩
theorem pj {z:Str} (Pv:Nat→St→Hp→Prop) (h0:Pv 0 σ H)
  (hs: ∀(i:Nat) (c:Nat) σ H,z.cps[i]?=some c→Pv i σ H→g (.str ⟨#[c]⟩) σ H fun σ2 H2=>tb {D with nx:=Pv (i+1),ct:=Pv (i+1),bk:=D.nx} σ2 H2) (hd: ∀σ H,Pv z.cps.size σ H→D.nx σ H):
  i4 K (.str z) H fun J H2=>forR J g tb D σ H2:=by
 refine ⟨fun i m σ H=>m=z.cps.size - i∧i≤z.cps.size∧Pv i σ H,⟨_,rfl,Nat.zero_le _,h0⟩,?_⟩
 rintro i m σ H ⟨rfl,hi,p⟩
 by_cases hlt:i<z.cps.size
 ·
  refine .inr ⟨hlt,Pv (i+1),fun σ' H' p'=>⟨z.cps.size - (i+1),by omega,rfl,hlt,p'⟩,fun x H' y=>?_⟩
  obtain ⟨e,c,hc,rfl⟩:=y
  subst e
  exact hs i c σ _ hc p
 ·
  have e:i=z.cps.size:=by omega
  subst e
  exact .inl ⟨Nat.le_refl _,hd σ H p⟩
theorem pk {lo:Int} {n:Nat} (Pv:Nat→St→Hp→Prop) (h0:Pv 0 σ H)
  (hs: ∀(i:Nat) σ H,i<n→Pv i σ H→g (.int (lo+i)) σ H fun σ2 H2=>tb {D with nx:=Pv (i+1),ct:=Pv (i+1),bk:=D.nx} σ2 H2) (hd: ∀σ H,Pv n σ H→D.nx σ H):
  forR (lD lo n) g tb D σ H:=jF Pv h0 hs hd
end
section
variable {K:PySem.W.Frag} {tt:TT} {te:TE} {H:Hp} {tail:St} {Q:List V→Hp→Prop} {p:V→Bool} {f:V→V}
theorem e9 {J:It} {n:Nat} {xs:List V} (hn:xs.length=n) (hz:n≤sizeLine) (go: ∀i,i<n→J.go i H) (stop:J.stop n H) (yl: ∀i x H',i<n→J.yld i H x H'→H'=H∧xs[i]?=some x)
  (ht: ∀x∈xs,∀Q:Bool→Hp→Prop,Q (p x) H→tt (some x::tail) H Q) (he: ∀x∈xs,p x=true→∀Q:VK,Q (f x) H→te (some x::tail) H Q) (q:Q ((xs.filter p).map f) H):
  cX J (ez 0) tt te (none::tail) H Q:=by
 refine ⟨fun i m ys σ' H'=>i≤n∧m=n - i∧ys=((xs.take i).filter p).map f∧(∃v,σ'=v::tail)∧H'=H,⟨n,Nat.zero_le _,rfl,by simp,⟨_,rfl⟩,rfl⟩,?_⟩
 rintro i m ys σ' H' ⟨hi,rfl,rfl,⟨v,rfl⟩,rfl⟩
 by_cases e:i=n
 ·
  subst e
  refine .inl ⟨stop,?_⟩
  rw [List.take_of_length_le (by omega)]
  exact q
 ·
  have hlt:i<n:=by omega
  refine .inr ⟨go i hlt,?_,fun ys' σ'' H''=>ys'=((xs.take (i+1)).filter p).map f∧(∃v,σ''=v::tail)∧H''=H',fun ys' σ'' H'' ⟨a,b,c⟩=>⟨n - (i+1),by omega,by omega,rfl,a,b,c⟩,fun x H'' y=>?_⟩
  ·have h1:(((xs.take i).filter p).map f).length≤i:=by
    rw [List.length_map]
    exact Nat.le_trans (List.length_filter_le _ _) (by rw [List.length_take];omega)
   omega
  ·
   obtain ⟨rfl,hx⟩:=yl i x H'' hlt y
   have hm:x∈xs:=List.mem_of_getElem? hx
   have tk:xs.take (i+1)=xs.take i++ [x]:=by
    rw [List.take_succ,hx];rfl
   show tt _ _ _
   refine ht x hm _ ?_
   cases hp:p x with
   |true=>
    rw [if_pos rfl]
    refine he x hm hp _ ⟨?_,⟨_,rfl⟩,rfl⟩
    rw [tk,List.filter_append,List.map_append]
    simp [hp]
   |false=>
    rw [if_neg Bool.false_ne_true]
    refine ⟨?_,⟨_,rfl⟩,rfl⟩
    rw [tk,List.filter_append,List.map_append]
    simp [hp]
noncomputable def bD (z:Str):List V:=z.cps.toList.map fun c=> .str ⟨#[c]⟩
theorem lh {z:Str} (hz:z.length≤sizeLine) (ht: ∀x∈bD z,∀Q:Bool→Hp→Prop,Q (p x) H→tt (some x::tail) H Q) (he: ∀x∈bD z,p x=true→∀Q:VK,Q (f x) H→te (some x::tail) H Q) (q:Q (((bD z).filter p).map f) H):
  i4 K (.str z) H fun J H2=>cX J (ez 0) tt te (none::tail) H2 Q:=by
 show cX (rB z) _ _ _ _ _ _
 refine e9 (n:=z.cps.size) (xs:=bD z) (by simp [bD]) hz (fun i hi=>hi) (Nat.le_refl _) (fun i x H' hi y=>?_) ht he q
 obtain ⟨e,c,hc,rfl⟩:=y
 refine ⟨e,?_⟩
 unfold bD
 rw [List.getElem?_map,Array.getElem?_toList,hc]
 rfl
theorem h7 {ix:List Nat} {σ:St}:bu 1 ix σ=none::ix.map fun i=>(σ[i]?).join:=rfl
end
section
variable {X:Cx}
def qk (neg:Bool):R2:=fun x y H Q=>match y with
 | .bl b=>Q (.bl (if neg then !decide (x = .bl b) else decide (x = .bl b))) H
 |_=>False
theorem gw {a b:Bool}:decide (V.bl a=V.bl b)=decide (a=b):=by
 cases a<;>cases b<;>decide
theorem l8 {a b:Bool} {H:Hp} {Q:VK}:qk false (.bl a) (.bl b) H Q=Q (.bl (decide (a=b))) H:=by
 show Q (.bl (if false=true then _ else decide (V.bl a=V.bl b))) H=_
 rw [if_neg Bool.false_ne_true,gw]
theorem gT {a b:Bool} {H:Hp} {Q:VK}:qk true (.bl a) (.bl b) H Q=Q (.bl (!decide (a=b))) H:=by
 show Q (.bl (if true=true then !decide (V.bl a=V.bl b) else _)) H=_
 rw [if_pos rfl,gw]
def qj (neg:Bool):R2:=fun x y H Q=>match y with
 | .non=>Q (.bl (if neg then !decide (x = .non) else decide (x = .non))) H
 |_=>False
theorem oo {x:V} {H:Hp} {Q:VK}:qj false x .non H Q=Q (.bl (decide (x = .non))) H:=rfl
theorem om {x:V} {H:Hp} {Q:VK}:qj true x .non H Q=Q (.bl (!decide (x = .non))) H:=rfl
def mj:V→List V→Hp→VK→Prop:=fun x vs H Q=>match x,vs with
 | .int i,[]=>Q (.int ((Builtin.Int.intBits i:Nat):Int)) H
 |_,_=>False
theorem lK {K:PySem.W.Frag} {i:Int} {H:Hp}:pP K "int" (.int i) H=True:=by
 show ("int" = "int")=True
 simp
theorem lJ {K:PySem.W.Frag} {z:Str} {H:Hp}:pP K "str" (.str z) H=True:=by
 show ("str" = "str")=True
 simp
theorem gg {i:Int} {H:Hp} {Q:VK}:mj (.int i) [] H Q=Q (.int ((Builtin.Int.intBits i:Nat):Int)) H:=rfl
def rf:V→Option Int→Option Int→Hp→VK→Prop:=fun x lo hi H Q=> ∃z,x = .str z∧z.length≤sizeLine∧Q (.str (Txt.slice z lo hi)) H
theorem gm {v:Value} {o:Option Int} (h:IsPart v o): ∃l:Option (Int×Tok),v=partValue l∧l.map (·.1)=o:=by
 cases h with
 |none=>exact ⟨none,rfl,rfl⟩
 |int i t=>exact ⟨some (i,t),rfl,rfl⟩
theorem n6:iU X rf:=by
 intro pins s σ H x v vl vu lo hi sl Q I rx hs pl pu h
 obtain ⟨z,rfl,hz,q⟩:=h
 obtain ⟨t,rfl⟩:=rx
 obtain ⟨l,rfl,el⟩:=gm pl
 obtain ⟨u,rfl,eu⟩:=gm pu
 refine ⟨"str",_,F.slot_str_getitem.lookup,typeIs_str _ _ _,wpAny_getItem_str_slice (l:=l) (u:=u) (st:=none) hs rfl ?_⟩
 unfold sliceMade
 have e:slicePicked z l u none=Builtin.Str.strSliceIndices lo hi 1 z.length:=by
  unfold slicePicked
  rw [el,eu]
  rfl
 rw [e]
 have hq:Txt.slice z lo hi=if ((1:Int) == 1&&(Builtin.Str.strSliceIndices lo hi 1 z.length).length == z.length)=true then z else ⟨((Builtin.Str.strSliceIndices lo hi 1 z.length).filterMap (z.cps[·]?)).toArray⟩:=rfl
 have hle:=Txt.slice_le z lo hi
 rw [hq] at q hle
 show (if ((1:Int) == 1&&(Builtin.Str.strSliceIndices lo hi 1 z.length).length == z.length)=true then Made.val (.str z t) else _).post _ s
 by_cases c:((1:Int) == 1&&(Builtin.Str.strSliceIndices lo hi 1 z.length).length == z.length)=true
 ·
  rw [if_pos c] at q⊢
  exact ⟨.str z,H,I,⟨t,rfl⟩,q⟩
 ·
  rw [if_neg c] at q hle⊢
  exact ⟨Nat.le_trans hle hz,.str _,H,I.tok _,⟨_,rfl⟩,q⟩
def j3 (K:PySem.W.Frag):V→Option Int→Option Int→Hp→VK→Prop:=fun x lo hi H Q=>match x with
 | .ref a=>(∃xs,bP K H a xs∧∀p,H p=none→Q (.ref p) (upd H p (.lst (dQ xs lo hi))))∨qa K (.ref a) lo hi H Q
 | .str z=>z.length≤sizeLine∧Q (.str (Txt.slice z lo hi)) H
 |_=>False
theorem iU.imp {r r':V→Option Int→Option Int→Hp→VK→Prop} (h:iU X r) (i: ∀x lo hi H Q,r' x lo hi H Q→r x lo hi H Q):iU X r':=
 fun pins s σ H x v vl vu lo hi sl Q I rx hs pl pu q=>h pins s σ H x v vl vu lo hi sl Q I rx hs pl pu (i _ _ _ _ _ q)
theorem q_:iU X (j3 X.K):=by
 refine iU.imp (lN.or (n5.or n6)) fun x lo hi H Q h=>?_
 unfold j3 at h
 split at h
 ·
  rcases h with ⟨xs,h1,h2⟩|h
  ·exact .inl ⟨_,xs,rfl,h1,h2⟩
  ·exact .inr (.inl h)
 ·exact .inr (.inr ⟨_,rfl,h.1,h.2⟩)
 ·exact h.elim
theorem j2 {K:PySem.W.Frag} {z:Str} {lo hi:Option Int} {H:Hp} {Q:VK}:j3 K (.str z) lo hi H Q=(z.length≤sizeLine∧Q (.str (Txt.slice z lo hi)) H):=rfl
theorem ja {K:PySem.W.Frag} {a:Addr} {xs:List V} {lo hi:Option Int} {H:Hp} {Q:VK} (hS:bP K H a xs) (h: ∀p,H p=none→Q (.ref p) (upd H p (.lst (dQ xs lo hi)))):j3 K (.ref a) lo hi H Q:= .inl ⟨xs,hS,h⟩
def kb (K:PySem.W.Frag) (neg:Bool):R2:=fun x y H Q=>match y with
 | .ref p=> ∃xs,(bP K H p xs∨c2 K H p xs)∧cJ x=true∧xs.all cJ=true∧Q (.bl (if neg then !pQ x xs else pQ x xs)) H
 | .str j=>(match x with
  | .str i=>Q (.bl (if neg then !(!(Builtin.Str.occurrences j i 0 j.length 1).isEmpty) else !(Builtin.Str.occurrences j i 0 j.length 1).isEmpty)) H
  |_=>False)
 |_=>False
theorem oK:cf X (compareOp .In) (kb X.K false):=by
 refine cf.imp (cf.or ju jt) fun x y H Q h=>?_
 unfold kb at h
 split at h
 ·
  obtain ⟨xs,h1,h2,h3,h4⟩:=h
  exact .inl ⟨_,xs,rfl,h1,h2,h3,h4⟩
 ·
  split at h
  ·exact .inr ⟨_,_,rfl,rfl,h⟩
  ·exact h.elim
 ·exact h.elim
theorem ka {K:PySem.W.Frag} {neg:Bool} {x:V} {p:Addr} {H:Hp} {Q:VK}:kb K neg x (.ref p) H Q=(∃xs,(bP K H p xs∨c2 K H p xs)∧cJ x=true∧xs.all cJ=true∧Q (.bl (if neg then !pQ x xs else pQ x xs)) H):=rfl
theorem j_ {K:PySem.W.Frag} {neg:Bool} {i j:Str} {H:Hp} {Q:VK}:kb K neg (.str i) (.str j) H Q=Q (.bl (if neg then !(!(Builtin.Str.occurrences j i 0 j.length 1).isEmpty) else !(Builtin.Str.occurrences j i 0 j.length 1).isEmpty)) H:=rfl
end
inductive Dt where
 |non|int (i:Int)|str (z:Str)|l (ds:List Dt)|t (ds:List Dt)
def Den (K:PySem.W.Frag) (H:Hp):Nat→V→Dt→Prop
 |0,x,d=>(x = .non∧d = .non)∨(∃i,x = .int i∧d = .int i)∨(∃z,x = .str z∧d = .str z)
 |n+1,x,d=>Den K H n x d∨(∃a xs ds,x = .ref a∧d = .l ds∧bP K H a xs∧Paired (Den K H n) xs ds)∨(∃a xs ds,x = .ref a∧d = .t ds∧c2 K H a xs∧Paired (Den K H n) xs ds)
theorem Paired.get {α β:Type} {F:α→β→Prop}: ∀{xs:List α} {ys:List β} {i:Nat} {x:α},Paired F xs ys→xs[i]?=some x→∃y,ys[i]?=some y∧F x y
 |_,_,_,_,.nil,e=>by simp at e
 |_,_,0,_,.cons r _,e=>by simp at e;subst e;exact ⟨_,rfl,r⟩
 |_,_,i+1,x,.cons _ t,e=>by
  obtain ⟨u,h1,h2⟩:=Paired.get (i:=i) (x:=x) t (by simpa using e)
  exact ⟨u,by simpa using h1,h2⟩
open Classical in
theorem fT {α:Type} {xs ys:List α} {e:Nat→Bool} (hl:xs.length=ys.length) (h: ∀j a b,xs[j]?=some a→ys[j]?=some b→e j=decide (a=b)):(List.range xs.length).all e=decide (xs=ys):=by
 rw [Bool.eq_iff_iff,List.all_eq_true,decide_eq_true_eq]
 constructor
 ·
  intro q
  refine List.ext_getElem hl fun j h1 h2=>?_
  have:=q j (List.mem_range.mpr h1)
  rw [h j xs[j] ys[j] (by simp [h1]) (by simp [h2]),decide_eq_true_eq] at this
  exact this
 ·
  rintro rfl j hj
  have hj':=List.mem_range.mp hj
  rw [h j xs[j] xs[j] (by simp [hj']) (by simp [hj']),decide_eq_true_eq]
section
variable {X:Cx} {pins:List (Addr×Obj)} {σ:St} {H:Hp} {s:Shared}
open Classical in
theorem dq {F G:V→Dt→Prop}: ∀{xs:List V} {ds es:List Dt},Paired F xs ds→Paired G xs es→(∀x d e,F x d→G x e→d=e)→ds=es
 |_,_,_,.nil,.nil,_=>rfl
 |_,_,_,.cons r t,.cons r' t',f=>by rw [f _ _ _ r r',dq t t' f]
theorem cT {a:Addr} {xs ys:List V} (I:Inv X pins σ H s) (h:bP X.K H a xs) (h':c2 X.K H a ys):False:=by
 obtain ⟨its,_,p,_⟩:=I.list h
 obtain ⟨its',_,p',_⟩:=I.tuple h'
 obtain ⟨o,n,e,c,_⟩:=p
 obtain ⟨o',e',c',_⟩:=p'
 rw [e] at e'
 cases e'
 rw [c] at c'
 injection c' with z
 exact absurd z (by decide)
theorem iv {its its2:List Value} (h: ¬its.length=its2.length):(its.toArray.size != its2.toArray.size)=true:=by
 rw [List.size_toArray,List.size_toArray,bne_iff_ne]
 exact h
open Classical in
open Classical in
theorem c8 {ds es:List Dt} {n:Nat} (hn:n=ds.length) (hl:ds.length=es.length):(List.range n).all (fun j=>decide (ds[j]?=es[j]?))=decide (ds=es):=by
 subst hn
 exact fT hl fun j a b ha hb=>by
  rw [ha,hb,Bool.eq_iff_iff,decide_eq_true_eq,decide_eq_true_eq]
  exact ⟨fun q=>Option.some.inj q,fun q=>by rw [q]⟩
open Classical in
end
def jm (K:PySem.W.Frag) (neg:Bool):R2:=fun x y H Q=>match x,y with
 | .ref a,.ref b=> ∃n d e,n≤60∧Den K H n (.ref a) d∧Den K H n (.ref b) e∧((d=e∧Q (.bl (!neg)) H)∨(d≠e∧Q (.bl neg) H))
 |x,y=>scal x y=true∧Q (.bl (if neg then !decide (x=y) else decide (x=y))) H
section
variable {X:Cx}
open Classical in
open Classical in
end
section
variable {K:PySem.W.Frag} {H:Hp} {Q:VK}
theorem kj {i j:Int}:jm K false (.int i) (.int j) H Q=Q (.bl (decide (i=j))) H:=by
 show (scal (.int i) (.int j)=true∧Q (.bl (if false=true then _ else decide (V.int i=V.int j))) H)=_
 rw [if_neg Bool.false_ne_true]
 exact fw
theorem j7 {i j:Int}:jm K true (.int i) (.int j) H Q=Q (.bl (!decide (i=j))) H:=by
 show (scal (.int i) (.int j)=true∧Q (.bl (if true=true then !decide (V.int i=V.int j) else _)) H)=_
 rw [if_pos rfl]
 exact fu
theorem ki {i j:Str}:jm K false (.str i) (.str j) H Q=Q (.bl (decide (i=j))) H:=by
 show (scal (.str i) (.str j)=true∧Q (.bl (if false=true then _ else decide (V.str i=V.str j))) H)=_
 rw [if_neg Bool.false_ne_true]
 exact fv
theorem j6 {i j:Str}:jm K true (.str i) (.str j) H Q=Q (.bl (!decide (i=j))) H:=by
 show (scal (.str i) (.str j)=true∧Q (.bl (if true=true then !decide (V.str i=V.str j) else _)) H)=_
 rw [if_pos rfl]
 exact ft
theorem mi {i j:Bool}:jm K false (.bl i) (.bl j) H Q=Q (.bl (decide (i=j))) H:=by
 show (scal (.bl i) (.bl j)=true∧Q (.bl (if false=true then _ else decide (V.bl i=V.bl j))) H)=_
 rw [if_neg Bool.false_ne_true]
 exact g0
theorem lW {i j:Bool}:jm K true (.bl i) (.bl j) H Q=Q (.bl (!decide (i=j))) H:=by
 show (scal (.bl i) (.bl j)=true∧Q (.bl (if true=true then !decide (V.bl i=V.bl j) else _)) H)=_
 rw [if_pos rfl]
 exact gQ
end
noncomputable def qI (osc scope:Scope) (ON N:List Str) (nv:Nat) (ix:List Nat):Bool:=
 scope.kind == .function&&scope.names.all (fun y=>y.2 != .cell&&(y.2 != .local||scope.names.lookup y.1 == some .local)&&(y.2 != .free||(osc.names.lookup y.1 == some .cell||osc.names.lookup y.1 == some .free)))&&
  N.length == nv+ix.length&&(List.range ix.length).all fun j=>match N[nv+j]?,ix[j]? with
   |some y,some i=>ON[i]? == some y&&(osc.names.lookup y == some .cell||osc.names.lookup y == some .free)&&scope.names.lookup y == some .free
   |_,_=>false
theorem lb {X:Cx} {scope:Scope} {N:List Str} {nv:Nat} {ix:List Nat} (h:qI X.env.scope scope X.N N nv ix=true):fU X scope N nv ix:=by
 unfold qI at h
 simp only [Bool.and_eq_true,beq_iff_eq,List.all_eq_true,List.mem_range,Bool.or_eq_true,bne_iff_ne,ne_eq] at h
 obtain ⟨⟨⟨h1,h2⟩,h3⟩,h4⟩:=h
 refine ⟨h1,fun y hy=>(h2 y hy).1.1,fun y hy hl=>?_,fun y hy hf=>?_,h3,fun j y e=>?_⟩
 ·
  rcases (h2 y hy).1.2 with z|z
  ·exact absurd hl z
  ·exact z
 ·
  rcases (h2 y hy).2 with z|z
  ·exact absurd hf z
  ·exact z
 ·have hj:j<ix.length:=by
   have:=(List.getElem?_eq_some_iff.mp e).1
   omega
  have q:=h4 j hj
  rw [e,List.getElem?_eq_getElem hj] at q
  simp only [Bool.and_eq_true,beq_iff_eq,Bool.or_eq_true] at q
  exact ⟨ix[j],List.getElem?_eq_getElem hj,q.1.1,q.1.2,q.2⟩
def rN (K:PySem.W.Frag) (vs:List V):TE:=fun _ H Q=> ∀a,(∀H,c2 K H a vs)→(∀H,pP K "tuple" (.ref a) H)→Q (.ref a) H
theorem dY (bs:List Bool):(List.range bs.length).all (fun i=>bs.getD i false)=bs.all id:=by
 rw [Bool.eq_iff_iff,List.all_eq_true,List.all_eq_true]
 constructor
 ·
  intro h b hb
  obtain ⟨i,hi,rfl⟩:=List.getElem_of_mem hb
  have:=h i (List.mem_range.mpr hi)
  simpa [List.getD,hi] using this
 ·
  intro h i hi
  have hi':=List.mem_range.mp hi
  have:=h bs[i] (List.getElem_mem hi')
  simpa [List.getD,hi'] using this
section
variable {X:Cx}
def kq (K:PySem.W.Frag) (any:Bool):List V→Hp→VK→Prop:=fun xs H Q=>match xs with
 | [.ref p]=> ∃bs:List Bool,bP K H p (bs.map V.bl)∧Q (.bl (if any then bs.any id else bs.all id)) H
 |_=>False
theorem fY {prog:Program} {w:World} {A:Around} {bs:List Bool} {its:List Value} (r:Vals (bs.map V.bl) its):TruthOf prog w A (fun i v=>its.toArray[i]?=some v) (fun i=>bs.getD i false):=by
 intro i v s Q E hP hQ
 have hP':its[i]?=some v:=by simpa using hP
 have hi:i<bs.length:=by
  have:=(List.getElem?_eq_some_iff.mp hP').1
  have l:=r.length
  rw [List.length_map] at l
  omega
 obtain ⟨u,hu,ru⟩:=r.get (i:=i) (x:= .bl bs[i]) (by rw [List.getElem?_map,List.getElem?_eq_getElem hi];rfl)
 rw [hP'] at hu
 cases hu
 cases ru
 have e:bs.getD i false=bs[i]:=by simp [List.getD,hi]
 replace hQ:Q (bs.getD i false) s:=hQ
 rw [e] at hQ
 exact wpAny_truthy_bool hQ
theorem ll (hc:X.calm=true):bK X (.builtin "all") (kq X.K false):=by
 intro pins s σ H xs us Q I rs q
 unfold kq at q
 split at q
 ·
  rename_i p
  obtain ⟨u,rfl,ru⟩:=vals1 rs
  cases ru
  obtain ⟨bs,hS,q⟩:=q
  obtain ⟨its,r,pl,hz⟩:=I.list hS
  have hlt:p<s.heap.objs.size:=by obtain ⟨o,e,_⟩:=pl.isList;exact Heap.lt_size e
  have hlen:=r.length
  rw [List.length_map] at hlen
  refine call_all_walk (wpAny_pyIter_list pl.isList ⟨s.heap.objs.size,_,_,_,_,_,_,rfl,Walks.list (A:=X.A.in1) (I.ok.hd hc) s.heap.objs.size p (Nat.ne_of_lt hlt) its.toArray,⟨⟨_,Heap.get?_push_size _ rfl,rfl,rfl⟩,pl.isList.push _⟩,fY r,fun h' tk hk=>?_⟩)
  refine ⟨.bl _,H,I.kept (h':=h') (t':=tk) fun b o e=>hk b o (fun z=>iJ e (Nat.le_refl _) (List.mem_singleton.mp z)) (Heap.get?_push_of_some _ e),?_,q⟩
  rw [List.size_toArray,←hlen,dY]
  rfl
 ·exact q.elim
def rd (K:PySem.W.Frag):List V→Hp→VK→Prop:=fun xs H Q=>match xs with
 | [.ref p]=> ∃ns:List Int,bP K H p (ns.map V.int)∧Q (.int ns.sum) H
 |_=>False
theorem ko {K:PySem.W.Frag} {p:Addr} {H:Hp} {Q:VK}:kq K false [.ref p] H Q=(∃bs:List Bool,bP K H p (bs.map V.bl)∧Q (.bl (bs.all id)) H):=rfl
theorem kn {K:PySem.W.Frag} {p:Addr} {H:Hp} {Q:VK}:kq K true [.ref p] H Q=(∃bs:List Bool,bP K H p (bs.map V.bl)∧Q (.bl (bs.any id)) H):=rfl
theorem j1 {K:PySem.W.Frag} {p:Addr} {H:Hp} {Q:VK}:rd K [.ref p] H Q=(∃ns:List Int,bP K H p (ns.map V.int)∧Q (.int ns.sum) H):=rfl
def oj (K:PySem.W.Frag):List V→Hp→VK→Prop:=fun xs H Q=>match xs with
 | [.ref p]=> ∃ys,(bP K H p ys∨c2 K H p ys)∧∀l,H l=none→Q (.ref l) (upd H l (.lst ys))
 |_=>False
def lU (K:PySem.W.Frag):List V→Hp→VK→Prop:=fun xs H Q=>match xs with
 | [.ref p]=> ∃ys,(bP K H p ys∧∀l,H l=none→Q (.ref l) (upd H l (.tup ys)))∨(c2 K H p ys∧Q (.ref p) H)
 |_=>False
theorem gS {K:PySem.W.Frag} {p:Addr} {H:Hp} {Q:VK}:oj K [.ref p] H Q=(∃ys,(bP K H p ys∨c2 K H p ys)∧∀l,H l=none→Q (.ref l) (upd H l (.lst ys))):=rfl
theorem f9 {K:PySem.W.Frag} {p:Addr} {H:Hp} {Q:VK}:lU K [.ref p] H Q=(∃ys,(bP K H p ys∧∀l,H l=none→Q (.ref l) (upd H l (.tup ys)))∨(c2 K H p ys∧Q (.ref p) H)):=rfl
def kl:List V→Hp→VK→Prop:=fun xs H Q=>match xs with
 | [.int i,.int j]=>m8 i j∧∀p,H p=none→Q (.ref p) (upd H p (.tup [.int (i / j),.int (i % j)]))
 |_=>False
theorem fz {i j:Int} {H:Hp} {Q:VK}:kl [.int i,.int j] H Q=(m8 i j∧∀p,H p=none→Q (.ref p) (upd H p (.tup [.int (i / j),.int (i % j)]))):=rfl
def km:V→List V→Hp→VK→Prop:=fun x vs H Q=>match x,vs with
 | .ref l,[y]=> ∃xs,H l=some (.lst xs)∧xs.length<sizeLine∧Q .non (upd H l (.lst (xs++ [y])))
 |_,_=>False
theorem fA {l:Addr} {y:V} {H:Hp} {Q:VK}:km (.ref l) [y] H Q=(∃xs,H l=some (.lst xs)∧xs.length<sizeLine∧Q .non (upd H l (.lst (xs++ [y])))):=rfl
def qc:V→V→V→Hp→(Hp→Prop)→Prop:=fun o i v H Q=>match o,i with
 | .ref p,.int k=> ∃xs j,H p=some (.lst xs)∧nC xs.length k=some j∧Q (upd H p (.lst (xs.set j v)))
 |_,_=>False
theorem jb {p:Addr} {k:Int} {v:V} {H:Hp} {Q:Hp→Prop}:qc (.ref p) (.int k) v H Q=(∃xs j,H p=some (.lst xs)∧nC xs.length k=some j∧Q (upd H p (.lst (xs.set j v)))):=rfl
def jj (K:PySem.W.Frag):R2:=fun x y H Q=>match x,y with
 | .ref p,.int i=> ∃xs v,(bP K H p xs∨c2 K H p xs)∧jK xs i=some v∧Q v H
 | .str z,.int i=> ∃c,z.length≤sizeLine∧jK z.cps.toList i=some c∧Q (.str ⟨#[c]⟩) H
 |_,_=>False
theorem ij.imp {r r':R2} (h:ij X r) (i: ∀x y H Q,r' x y H Q→r x y H Q):ij X r':=fun value slice pins s σ H x y v u Q I rx ry q hs=>h value slice pins s σ H x y v u Q I rx ry (i _ _ _ _ q) hs
theorem ri:ij X (jj X.K):=ij.imp ph fun x y H Q h=>by
 unfold jj at h
 split at h
 ·
  obtain ⟨xs,v,h1,h2,h3⟩:=h
  rcases h1 with h1|h1
  ·exact .inl ⟨_,xs,_,v,rfl,rfl,h1,h2,h3⟩
  ·exact .inr (.inl ⟨_,xs,_,v,rfl,rfl,h1,h2,h3⟩)
 ·
  obtain ⟨c,h1,h2,h3⟩:=h
  exact .inr (.inr ⟨_,_,c,rfl,rfl,h1,h2,h3⟩)
 ·exact h.elim
theorem gb {K:PySem.W.Frag} {z:Str} {i:Int} {H:Hp} {Q:VK}:jj K (.str z) (.int i) H Q=(∃c,z.length≤sizeLine∧jK z.cps.toList i=some c∧Q (.str ⟨#[c]⟩) H):=rfl
theorem kO {K:PySem.W.Frag} {p:Addr} {i:Int} {H:Hp} {Q:VK} {xs:List V} {v:V} (h:bP K H p xs) (e:jK xs i=some v) (q:Q v H):jj K (.ref p) (.int i) H Q:=⟨xs,v,.inl h,e,q⟩
end
section
variable {K:PySem.W.Frag} {H:Hp} {σ:St}
theorem kR {n:Nat} {t:lx} {a:Addr} {Q:St→Hp→Prop}:rk K n t (.ref a) σ H Q=(∃xs,c2 K H a xs∧xs.length=n∧t xs σ H Q):=by
 apply propext
 constructor
 ·
  rintro ⟨b,xs,e,h⟩
  cases e
  exact ⟨xs,h⟩
 ·
  rintro ⟨xs,h⟩
  exact ⟨a,xs,rfl,h⟩
theorem hW {t:TG} {u:lx} {v:V} {r:List V} {Q:St→Hp→Prop}:qC t u (v::r) σ H Q=t v σ H fun σ' H'=>u r σ' H' Q:=by
 apply propext
 constructor
 ·
  rintro ⟨v',r',e,h⟩
  cases e
  exact h
 ·
  intro h
  exact ⟨v,r,rfl,h⟩
theorem kS {Q:St→Hp→Prop}:rm [] σ H Q=Q σ H:=by
 apply propext
 exact ⟨fun h=>h.2,fun h=>⟨rfl,h⟩⟩
theorem pz {i:Int} {P:Int→Prop}:(∃k,V.int i = .int k∧P k)=P i:=by
 apply propext
 constructor
 ·
  rintro ⟨k,e,q⟩
  cases e;exact q
 ·intro q;exact ⟨i,rfl,q⟩
theorem gO {n:Nat} (h:n≤1000):(n≤sizeLine)=True:=by
 have:=sizeLine_eq
 simp only [eq_iff_iff,iff_true]
 omega
theorem jU {n:Nat} (h:n≤1000):(n<sizeLine)=True:=by
 have:=sizeLine_eq
 simp only [eq_iff_iff,iff_true]
 omega
end
section
variable {X:Cx} (K:PySem.W.Frag) (h:X.K=K)
theorem bh (h:X.K=K):cf X (binaryOp .Add) (e6 K):=h▸mC
theorem cw (h:X.K=K):bK X (.builtin "len") (f_ K):=h▸jI
theorem dR (h:X.K=K):bK X (.builtin "isinstance") (eP K):=h▸lj
theorem oJ (h:X.K=K):cf X (compareOp .In) (kb K false):=h▸oK
theorem eM (h:X.K=K):iU X (j3 K):=h▸q_
theorem mJ (h:X.K=K):ij X (jj K):=h▸ri
theorem d3 {tg l:Expr} {tl:TE} (h:X.K=K) (hl:PE X l tl):PI X tg l (mN K tl):=h▸oA hl
theorem jJ (h:X.K=K) (hc:X.calm=true):bK X (.builtin "all") (kq K false):=h▸ll hc
theorem kB {o e:Expr} {es:List Expr} {to:TE} {t:TA} {name:Str} {apos cpos:Pos} {T id:String} {r:V→List V→Hp→VK→Prop} (h:X.K=K) (pa:PlainAttrs T) (slot:Slot T name id) (hty:typeOf (.builtin id)=pure (.type "method_descriptor")) (hm:pS X id r) (ho:PE X o to) (ha:PA X (e::es) t)
  (hbase:attributeBase o name X.env (eval o X.env)=eval o X.env:=by rfl)
  (
   hfew:((backTo cpos (starEach (e::es) X.env)).all (fun x=>!x.1)&&(backToKw cpos (keywordEach [] X.env)).all (fun x=>x.1.isSome)
   &&decide ((e::es).length+([]:List Keyword).length+(if ([]:List Keyword).isEmpty then 0 else 1)<30))=true:=by rfl)
  (hline:(apos.endLine == cpos.line)=true:=by rfl) (hs:starEach (e::es) X.env=(false,eval e X.env)::starEach es X.env:=by rfl) (hplain:(backTo cpos (starEach es X.env)).any (·.1)=false:=by rfl):
  PE X (.Call (.Attribute o name apos) (e::es) [] cpos) (q9 K T r to t):=h▸qo pa slot hty hm ho ha hbase hfew hline hs hplain
end
def qY (t u:TS):TS:=fun D σ H=> ∃M:St→Hp→Prop,t {D with nx:=M} σ H∧∀σ' H',M σ' H'→u D σ' H'
theorem mq {X:Cx} {st:Stmt} {rest:List Stmt} {t u:TS} (h1:PS X st t) (h2:eI X rest u):eI X (st::rest) (qY t u):=by
 intro pins s σ H D I ⟨M,h,k⟩
 refine wpAny_execs_cons (thn (h1 pins s σ H {D with nx:=M} I h) fun f s1 q=>?_)
 cases f with
 |next=>
  obtain ⟨σ',H',I',q⟩:=q
  exact h2 pins s1 σ' H' D I' (k σ' H' q)
 |ret v=>exact q
 |brk=>exact q
 |cont=>exact q
noncomputable def isStar:Expr→Bool
 | .Starred .. =>true
 |_=>false
theorem bV {e:Expr} {es:List Expr} {env:Env} (h:isStar e=false):starEach (e::es) env=(false,eval e env)::starEach es env:=by
 cases e<;>first|rfl|exact absurd h (by simp [isStar])
theorem d4 {pos:Pos} {env:Env}: ∀{es:List Expr},es.any isStar=false→(backTo pos (starEach es env)).any (·.1)=false
 | [],_=>rfl
 |e::es,h=>by
  rw [List.any_cons,Bool.or_eq_false_iff] at h
  rw [bV h.1]
  show (false||(backTo pos (starEach es env)).any (·.1))=false
  rw [d4 h.2]
  rfl
noncomputable def b6:Expr→Bool
 | .UnaryOp .Not _ _=>false
 | .BoolOp .. =>false
 | .IfExp .. =>false
 | .Compare .. =>false
 |_=>true
theorem jA {e:Expr} {env:Env} (h:b6 e=true) (whole:Sem Value):isTrue e env whole=(do let v←whole;standAt e.pos;holding [v] (truthy v)):=by
 cases e with
 |UnaryOp op a p=>cases op<;>first|rfl|exact absurd h (by simp [b6])
 |BoolOp=>exact absurd h (by simp [b6])
 |IfExp=>exact absurd h (by simp [b6])
 |Compare=>exact absurd h (by simp [b6])
 |_=>rfl
section
variable {X:Cx} {CX:dF} {k n:Nat} {ps:List Str} {sp:Sp} {x:Str} {p pos:Pos} {e:Expr} {es:List Expr} {t:TA} {te:TE} {id T:String} {r:List V→Hp→VK→Prop}
theorem aH (ha:PE X e te) (hr:PA X es t) (h:isStar e=false:=by rfl):PA X (e::es) (jS te t):=my ha hr (bV h)
theorem bG [Quiet CX] (G:FnAt X.prog X.w X.K X.mg X.base CX x k ps sp) (hr:bL n X.A) (hk:k≤n) (hg:Gl X x) (ha:PA X (e::es) t)
  (hdb:(x == ("__debug__" : Str))=false:=by decide) (h:(e::es).any isStar=false:=by rfl):PE X (.Call (.Name x p) (e::es) [] pos) (iu sp [] E0 t):=by
 rw [List.any_cons,Bool.or_eq_false_iff] at h
 exact qm G hr hk hg ha hdb (bV h.1) (d4 h.2)
theorem a6 (hc:bK X (.builtin id) r) (hg:Gl X x) (hm:X.mg x=none) (hv:bootBuiltins x=some (.builtin id)) (ha:PA X (e::es) t) (hn:x≠ "__name__" :=by decide) (hdb:(x == ("__debug__" : Str))=false:=by decide)
  (h:(e::es).any isStar=false:=by rfl):PE X (.Call (.Name x p) (e::es) [] pos) (q0 r t):=by
 rw [List.any_cons,Bool.or_eq_false_iff] at h
 exact kA hc hg hm hv ha hn hdb (bV h.1) (d4 h.2)
theorem d_ (he:PE X e te) (h:b6 e=true:=by rfl):PT X e (tB te):=ow he (jA h)
end
noncomputable def du:Expr→Bool
 | .ListComp .. =>true
 | .SetComp .. =>true
 | .DictComp .. =>true
 |_=>false
noncomputable def kP:Expr→Bool
 | .Set .. =>true
 |_=>false
theorem cM {e:Expr} {tg:Option Expr} {l:Nat} {env:Env} (h:du e=false):swapsWith e tg l env=pure false:=by
 cases e<;>first|rfl|exact absurd h (by simp [du])
theorem mF {op:CmpOp} {b:Expr} (h:kP b=false):behindInMarks op b=false:=by
 cases b<;>first|rfl|exact absurd h (by simp [kP])
section
variable {X:Cx} {pos:Pos}
theorem bc {i:Nat} {x:Str} {e:Expr} {te:TE} {pos':Pos} (hN:X.N.Nodup) (hi:X.N[i]?=some x) (hx:Loc X.env.scope x) (he:PE X e te) (h:du e=false:=by rfl) (hf:X.fn x=true∨X.env.scope.names.lookup x=some .local:=by first|exact .inl rfl|exact .inr rfl|assumption):
  PS X (.Assign [.Name x pos'] e pos) (nZ te (ez i)):=oz hN hi hx he (cM h) hf
theorem gi {e:Expr} {te:TE} (he:PE X e te) (h:du e=false:=by rfl):PS X (.Expr e pos) (ir te):=mu he (cM h)
end
def rO (vs:List V):TA:=fun _ H Q=>Q vs H
end L2
namespace BitM
end BitM
namespace Rem
end Rem
namespace BitI
open PySem L2
theorem m4 (a b:Nat):Builtin.bitAnd (a:Int) (b:Int)=((a &&& b:Nat):Int):=by
 rw [PyProof.Rows.bitAnd_pp (by omega) (by omega)]
 simp
end BitI
namespace Com
open PySem L2
theorem bz {H:Hp} {p:Addr} {o:HO} (h:H p=none):bw H (upd H p o):=fun b u e=>by rw [af (aE e h)];exact e
theorem jV {K:PySem.W.Frag} {H H':Hp} {a:Addr} {xs:List V} (e:bw H H') (h:bP K H a xs):bP K H' a xs:=e.seq h
theorem la {ns:List Int} {lo hi:Option Int}:dQ (ns.map V.int) lo hi=((ns.drop (HT.bQ ns.length 0 lo)).take (HT.bQ ns.length ns.length hi - HT.bQ ns.length 0 lo)).map V.int:=by
 unfold dQ
 rw [List.length_map,List.map_take,List.map_drop]
theorem k_ {ns:List Int} {n:Nat}:dQ (ns.map V.int) none (some (n:Int))=(ns.take n).map V.int:=by
 rw [la,HT.jX,HT.lO,List.drop_zero,Nat.sub_zero]
 congr 1
 by_cases h:n≤ns.length
 ·rw [Nat.min_eq_left h]
 ·rw [Nat.min_eq_right (by omega),List.take_length,List.take_of_length_le (by omega)]
theorem fi {H:Hp} {p q:Addr} {o x:HO} (h:H p=some x) (hn:H q=none):upd H q o p=some x:=by rw [af (aE h hn)];exact h
theorem ic {K:PySem.W.Frag} {H:Hp} {Q:VK} {l b:Addr} {xs zs:List V} (h1:H l=some (.lst xs)) (h2:H b=some (.lst zs)) (hz:xs.length+zs.length≤sizeLine) (q: ∀p,H p=none→Q (.ref p) (upd H p (.lst (xs++zs)))):e6 K (.ref l) (.ref b) H Q:=
 .inl ⟨l,b,xs,zs,rfl,rfl,h1,h2,hz,q⟩
theorem gq {ns:List Int} {i:Nat} {x:V} (h:(ns.map V.int)[i]?=some x): ∃c,x = .int c∧ns[i]?=some c:=by
 rw [List.getElem?_map] at h
 cases e:ns[i]? with
 |none=>rw [e] at h;cases h
 |some c=>rw [e] at h;cases h;exact ⟨c,rfl,rfl⟩
theorem cshl {i j:Int} (h0:0≤j) (h1:j≤1000000) (h2:0≤i) (h3:i<2 ^ 256):jL i j:=by
 have e:(2:Int) ^ 256≤2 ^ 512:=by decide+kernel
 exact ⟨⟨h0,h1⟩,by omega,by omega⟩
theorem a8 {n:Nat} (h:n≤1000):n≤sizeLine:=by rw [sizeLine_eq];omega
theorem jO (ns:List Int) (n:Nat):(ns.take n).length≤n:=by rw [List.length_take];omega
theorem gu {K:PySem.W.Frag} {H:Hp} {Q:VK} {p:Addr} {xs:List V} {k:Int} (hS:bP K H p xs) (h0:0≤k) (h1:k<xs.length) (q: ∀v∈xs,Q v H):jj K (.ref p) (.int k) H Q:=by
 obtain ⟨j,rfl⟩: ∃j:Nat,k=(j:Int):=⟨k.toNat,by omega⟩
 have hj:j<xs.length:=by omega
 exact kO (v:=xs[j]) hS (mZ (by simp [hj])) (q _ (List.getElem_mem hj))
end Com
namespace L2
open PySem PySem.Spec PyProof.Rows
def MethAt (K:PySem.W.Frag) (C:Addr) (m q:Str) (st:Stmt):Prop:= ∃f fd,qN K m q st f fd∧Meth K C m f
def m6 (P:Program) (w:World) (K:PySem.W.Frag) (mg:Str→Option Value) (base:Heap) (CX:dF) (C:Addr) (m:Str) (k:Nat) (ps:List Str) (sp:Sp):Prop:=
 ∃f fd,dZ P w K mg base CX k f fd ps sp∧Meth K C m f∧Binds K fd ps []
theorem jw {K:PySem.W.Frag} {C:Addr} {m q:Str} {st:Stmt} {f:Addr} {oc:Value} {od an:Option Addr} {osl:Array (Option Value)} {kV doc pm cdv ct:Value}
  (a:PySem.W.findIn K (.ref C) m=some (some (.ref f))) (i:PySem.W.isFn K (.ref f)=true)
  (l:K.lookup f=some ⟨oc,od,.func (PySem.W.fnOf m q (bN st) (bj st) (aj st) .none kV doc pm an cdv ct),osl⟩) (c:PySem.W.codeIn K cdv q=true) (k:PySem.W.keepIn K (.ref f)=true):MethAt K C m q st:=
 ⟨f,_,kT l c k,⟨a,i,k⟩⟩
section
variable {P:Program} {w:World} {K:PySem.W.Frag} {mg:Str→Option Value} {base:Heap} {CX:dF}
theorem MethAt.fn {C:Addr} {m q:Str} {st:Stmt} {N ps:List Str} {k:Nat} {sp:Sp} (F:MethAt K C m q st) (S:bb N ps (aj st))
  (hb: ∀(kV doc pm:Value) (an:Option Addr) (cdv ct:Value) (us:List Value),us.length=ps.length→bindArgs (PySem.W.fnOf m q (bN st) (bj st) (aj st) .none kV doc pm an cdv ct) ⟨us,[]⟩=pure (ps.zip us))
  (len: ∀vs H Q E,sp vs H Q E→vs.length=ps.length)
  (
   hbody: ∀(f:Addr) (cdv:Value) (A:Around) (outer:List Env) (s:Shared) (H:Hp) (vs:List V) (Q:VK) (E:XK),bL k (A.deeper (envOfC q (aj st) s.heap.objs.size f cdv))→sp vs H Q E→
   ∃t,eI (eC CX P w K mg base N q (aj st) f cdv A outer s H E).nox (bj st) t∧t {nx:=fun _ H'=>Q .non H',rt:=Q} (start N vs) H):m6 P w K mg base CX C m (k+1) ps sp:=by
 obtain ⟨f,fd,F,hm⟩:=F
 have bd:=F.binds hb
 obtain ⟨oc,od,kV,doc,pm,an,cdv,ct,osl,rfl,lk,hcd⟩:=F.ex
 refine ⟨f,_,kW lk hcd S len fun A outer s H vs Q E hr hsp=>?_,hm,bd⟩
 obtain ⟨t,h,q⟩:=hbody f cdv A outer s H vs Q E hr hsp
 exact ⟨t,h.nox,q⟩
end
def rP (C:Addr) (m:Str) (x:V) (H:Hp) (N:Prop):Prop:= ∃a,x = .ref a∧∃dx fs,H a=some (.ins C dx fs)∧fs.lookup m=none∧N
section
variable {X:Cx} {C:Addr} {o e value:Expr} {es:List Expr} {f m x:Str} {p pos pos' tpos apos:Pos} {ta tv:TE} {t:TA} {k n:Nat} {ps:List Str} {sp:Sp}
end
end L2
namespace MeterM
end MeterM
namespace WaysM
end WaysM
namespace L2
open PySem PySem.Spec PyProof.Rows
def Bd (n:Nat) (x:Int):Prop:=x.natAbs<2 ^ n
theorem Bd.up {a b:Nat} {x:Int} (h:Bd a x) (hab:a≤b):Bd b x:=Nat.lt_of_lt_of_le h (Nat.pow_le_pow_right (by decide) hab)
def qO (_ j:Int):Prop:=0<j∧Bd 8000 j
theorem kF {X:Cx}:cf X (binaryOp .FloorDiv) (rI qO fun i j=> .int (i / j)):=oR fun i j _ _ _ _ _ hc q=>by
 have e:i.fdiv j=i / j:=Int.fdiv_eq_ediv_of_nonneg i (Int.le_of_lt hc.1)
 rw [←e] at q
 refine floordiv_int (Int.ne_of_gt hc.1) q (.inl (PyProof.noPylong_of_log2 ?_))
 have hx:j.natAbs≠0:=by have:=hc.1;omega
 exact Nat.lt_of_lt_of_le ((Nat.log2_lt hx).mpr hc.2) (by decide)
end L2
namespace L2
theorem Bd.c {n k:Nat} (h:k<2 ^ n):Bd n (k:Int):=by unfold Bd;simpa using h
end L2
namespace WaysI
open PySem L2
end WaysI
namespace L2
open PySem PySem.Spec PyProof.Rows
section
variable {X:Cx} {i o e value:Expr} {ti to te tv:TE} {pos pos' apos cpos:Pos}
end
section
variable {X:Cx} {K:PySem.W.Frag}
end
section
variable {X:Cx} {a b c d:Expr} {ta tb tc td:TE} {pos:Pos}
end
section
variable {X:Cx} {i o e value:Expr} {ti to te tv:TE} {pos pos' apos cpos:Pos}
end
section
variable {X:Cx} {pins:List (Addr×Obj)} {σ:St} {H:Hp} {s:Shared} {h':Heap}
end
section
variable {X:Cx} {elts:List Expr} {x1:_} {tpos:Pos}
end
section
variable {K:PySem.W.Frag} {g:TG} {tb:TS} {D:Ends} {σ:St} {H:Hp} {ta:TA}
end
section
variable {X:Cx} {o e f:Expr} {to te tf:TE} {apos cpos:Pos}
end
section
variable {X:Cx} {pos:Pos}
structure QS (X:Cx) (st:Stmt) (t:TS):Prop where
 h:PS X st t
structure qU (X:Cx) (l:List Stmt) (t:TS):Prop where
 h:eI X l t
theorem ml {st:Stmt} {t:TS} (h1:QS X st t):qU X [st] t:=⟨ag h1.h⟩
theorem kr {st:Stmt} {rest:List Stmt} {t u:TS} (h1:QS X st t) (h2:qU X rest u):qU X (st::rest) (nT t u):=⟨ao h1.h h2.h⟩
end
section
variable {X:Cx} {elts:List Expr} {x1:_} {tpos:Pos}
end
section
variable {nv:Nat} {ix:List Nat} {g:TG} {tt:TT} {te:TE} {tb:TS} {D:Ends} {σ:St} {H:Hp} {ta:TA} {Q:VK}
end
section
variable {K:PySem.W.Frag} {g:TG} {tt:TT} {te:TE} {H:Hp} {σ:St} {Q:List V→Hp→Prop}
end
def lA (h:Heap) (e:Addr) (cls:Value) (dx tb:Option Addr):Prop:=
 ∃oe vs,h.get? e=some oe∧oe.cls=cls∧oe.dict=dx∧oe.data = .fields vs∧1<vs.size∧(match tb with
  |none=>vs[1]?=some .none
  |some T=>vs[1]?=some (.ref T)∧T≠e∧∃oT ts,h.get? T=some oT∧oT.data = .fields ts∧ts[3]?=some .none)
structure qL (S:List Addr) (e:Addr) (tb:Option Addr) (h h':Heap):Prop where
 keep: ∀b o,b ∉ S→b≠e→(∀T,tb=some T→b≠T)→h.get? b=some o→h'.get? b=some o
 slot: ∀b o,b∈S→h.get? b=some o→∃sl,h'.get? b=some {o with slots:=sl}
 there: ∀b o,h.get? b=some o→∃o',h'.get? b=some o'
section
variable {M:Model} {A:Around} {E:Value→Shared→Prop} {s:Shared}
theorem eB (f:Array Value→Array Value) (o:Obj):(Obj.mapFields f o).dict=o.dict:=by
 unfold Obj.mapFields
 split<;>rfl
noncomputable abbrev oa (top:Value) (L:Addr) (ps:List Value):Obj:={cls:= .type "traceback",dict:=none,data:= .fields ([top,.ref L,.none,rawInt L,.none]++(if ps.isEmpty then List.replicate 6 Value.none else ps)).toArray}
theorem iO {base:Heap} {env:Env} {outer:List Env} {L e:Addr} {oe:Obj} {vs:Array Value} {top:Value} {had:Bool} {Q:Unit→Shared→Prop}
  (hfr:A.frames=some (env::outer)) (hl:s.heap.FunFrames base (env::outer)) (hf:env.frame=some L)
  (he:s.heap.get? e=some oe) (hd:oe.data = .fields vs) (hsz:1<vs.size)
  (h: ∀h',lA h' e oe.cls oe.dict (some s.heap.objs.size)→qL ((env::outer).filterMap (·.frame)) e none s.heap h'→Q () {s with heap:=h'}):
  wpAny M A (do let a←frameOf env;let pl←entryPlaceOf L had;let b←EntryCells.newEntry top a .none (rawInt L) .none pl;setField (.ref e) 1 b) (fun _ s'=>wpAny M A (setFlight (.ref e) none) Q E s') E s:=by
 have out:e ∉ (env::outer).filterMap (·.frame):=fun hm=>by
  obtain ⟨_,o',ho',no⟩:=hl.mem hm
  cases he.symm.trans ho'
  exact no vs hd
 refine wpAny_bind (wpAny_frameOf_fun hfr hl hf fun k ks=>wpAny_bind (wpAny_entryPlaceOf fun ps hps=>?_))
 unfold EntryCells.newEntry newFields
 refine wpAny_bind (wpAny_newObj_type ?_ (hps.sizeOk5 _ _ _ _ _))
 have ke:k.get? e=some oe:=(ks.2.1 e out).trans he
 have far:k.objs.size≠e:=Nat.ne_of_gt (Heap.lt_size ke)
 have esz:k.objs.size=s.heap.objs.size:=ks.1
 have de:=Obj.data_mapFields hd (·.setIfInBounds 1 (Value.ref k.objs.size))
 have e1:=Heap.get?_push_of_some (h:=k) (oa top L ps) ke
 have e2:=Heap.get?_update_self (Obj.mapFields (·.setIfInBounds 1 (Value.ref k.objs.size))) e1 (Obj.isFreed_of_fields de)
 have r2:=(Heap.get?_update_other (k.push (oa top L ps)) (Obj.mapFields (·.setIfInBounds 1 (Value.ref k.objs.size))) (Ne.symm far)).trans (Heap.get?_push_size k rfl)
 refine wpAny_setField e1 hd hsz ?_
 unfold setFlight
 refine wpAny_bind (wpAny_field e2 de (x:= .ref k.objs.size) (by simp [hsz]) ?_)
 rw [if_pos (by simp)]
 have r3:=Heap.get?_update_self (Obj.mapFields (·.setIfInBounds 3 ((none:Option Addr).elim Value.none fun f=>rawInt f))) r2 (Obj.isFreed_of_fields (Obj.data_mapFields rfl _))
 refine wpAny_setField r2 rfl (by simp only [List.size_toArray,List.length_append,List.length_cons,List.length_nil]<;>omega) (h _ ?_ ?_)
 ·
  rw [←esz]
  refine ⟨_,_,?_,Obj.cls_mapFields _ _,eB _ _,de,by simp [hsz],by simp [hsz],far,_,_,r3,Obj.data_mapFields rfl _,?_⟩
  ·rw [Heap.get?_update_other _ _ far];exact e2
  ·first|(simp;done)|(rcases hps with rfl|⟨_,_,_,_,_,_,_,rfl⟩<;>simp)
 ·have keep: ∀b o,b≠e→k.get? b=some o→(((k.push (oa top L ps)).update e (Obj.mapFields (·.setIfInBounds 1 (Value.ref k.objs.size)))).update k.objs.size (Obj.mapFields (·.setIfInBounds 3 ((none:Option Addr).elim Value.none fun f=>rawInt f)))).get? b=some o:=fun b o ne hb=>by
   rw [Heap.get?_update_other _ _ (Nat.ne_of_gt (Heap.lt_size hb)),Heap.get?_update_other _ _ (Ne.symm ne)]
   exact Heap.get?_push_of_some _ hb
  refine ⟨fun b o hS ne _ hb=>keep b o ne ((ks.2.1 b hS).trans hb),fun b o hS hb=>?_,fun b o hb=>?_⟩
  ·
   obtain ⟨sl,q⟩:=ks.2.2 b o hb
   exact ⟨sl,keep b _ (fun z=>out (z▸hS)) q⟩
  ·
   by_cases z:b=e
   ·
    subst z
    rw [Heap.get?_update_other _ _ far]
    exact ⟨_,e2⟩
   ·
    obtain ⟨sl,q⟩:=ks.2.2 b o hb
    exact ⟨_,keep b _ z q⟩
theorem kH {base:Heap} {env:Env} {outer:List Env} {L e:Addr} {cls:Value} {dx tb:Option Addr} {Q:Unit→Shared→Prop}
  (hfr:A.frames=some (env::outer)) (hl:s.heap.FunFrames base (env::outer)) (hf:env.frame=some L) (hx:lA s.heap e cls dx tb)
  (h: ∀h',lA h' e cls dx (some s.heap.objs.size)→qL ((env::outer).filterMap (·.frame)) e tb s.heap h'→Q () {s with heap:=h'}):wpAny M A (noteFrame (.ref e) env) (fun _ s'=>wpAny M A (setFlight (.ref e) none) Q E s') E s:=by
 obtain ⟨oe,vs,he,rfl,rfl,hd,hsz,ht⟩:=hx
 unfold noteFrame
 simp only [hf]
 cases tb with
 |none=>
  refine wpAny_bind (wpAny_field he hd ht ?_)
  rw [if_neg (by decide)]
  exact iO hfr hl hf he hd hsz h
 |some T=>
  obtain ⟨h1,ne,oT,ts,hT,dT,h3⟩:=ht
  have apart: ∀b o,s.heap.get? b=some o→(∀ws,o.data≠ .fields ws)→b≠T:=fun b o hb no z=>by
   subst z
   cases hb.symm.trans hT
   exact no ts dT
  have out:T ∉ (env::outer).filterMap (·.frame):=fun hm=>by
   obtain ⟨_,o',ho',no⟩:=hl.mem hm
   exact apart T o' ho' no rfl
  refine wpAny_bind (wpAny_field he hd h1 ?_)
  rw [if_pos (by simp)]
  refine wpAny_bind (wpAny_field hT dT h3 ?_)
  rw [if_neg (by simp [rawInt])]
  refine wpAny_bind (wpAny_setField hT dT (Array.getElem?_eq_some_iff.mp h3).1 ?_)
  have oth: ∀b,b≠T→(s.heap.update T (Obj.mapFields (·.setIfInBounds 3 Value.none))).get? b=s.heap.get? b:=fun b z=>Heap.get?_update_other _ _ (Ne.symm z)
  have self:=Heap.get?_update_self (Obj.mapFields (·.setIfInBounds 3 Value.none)) hT (Obj.isFreed_of_fields (Obj.data_mapFields dT _))
  have fr:=hl.of_keeps (h':=s.heap.update T (Obj.mapFields (·.setIfInBounds 3 Value.none))) fun b o hb no=>⟨o,(oth b (apart b o hb no)).trans hb,rfl⟩
  refine iO (oe:=oe) (vs:=vs) hfr fr hf ((oth e (Ne.symm ne)).trans he) hd hsz fun h' x k=>?_
  have sz:(s.heap.update T (Obj.mapFields (·.setIfInBounds 3 Value.none))).objs.size=s.heap.objs.size:=Heap.size_update ..
  change lA h' e oe.cls oe.dict (some (s.heap.update T (Obj.mapFields (·.setIfInBounds 3 Value.none))).objs.size) at x
  rw [sz] at x
  refine h h' x ⟨fun b o hS z zT hb=>k.keep b o hS z (fun _ q=>by cases q) ((oth b (zT T rfl)).trans hb),fun b o hS hb=>k.slot b o hS ((oth b (fun q=>out (q▸hS))).trans hb),fun b o hb=>?_⟩
  by_cases q:b=T
  ·exact q▸k.there _ _ self
  ·exact k.there b o ((oth b q).trans hb)
theorem jx {base:Heap} {env:Env} {outer:List Env} {L e:Addr} {cls:Value} {dx tb:Option Addr} {Q:Unit→Shared→Prop}
  (hfr:A.frames=some (env::outer)) (hl:s.heap.FunFrames base (env::outer)) (hf:env.frame=some L) (hx:lA s.heap e cls dx tb)
  (h: ∀h',lA h' e cls dx (some s.heap.objs.size)→qL ((env::outer).filterMap (·.frame)) e tb s.heap h'→Q () {s with heap:=h'}):wpAny M A (leaving env (.ref e)) Q E s:=wpAny_bind (kH hfr hl hf hx h)
end
def ip (P:Program) (w:World):dF:=fun outer H s E e s'=> ∃ea cls dx T H',e = .ref ea∧s'.os=s.os∧AllBare s'.gens∧Un (frs outer) [] H H' s.heap s'.heap∧eK P w H' s'.heap∧lA s'.heap ea cls dx (some T)∧
 (s.heap.get? ea=none∧s.heap.get? T=none∧H' ea=none∧H' T=none)∧E cls dx H'
noncomputable instance {P:Program} {w:World}:Quiet (ip P w):=⟨fun X pins σ H s e s' I h=>by
 obtain ⟨_,_,_,_,_,_,_,_,_,_,_,_,h⟩:=h
 exact h.elim⟩
structure nI (X:Cx) (pins:List (Addr×Obj)) (σ:St) (H:Hp) (s:Shared) (ea:Addr) (cls:Value) (dx tb:Option Addr):Prop where
 inv:Inv X pins σ H s
 ex:lA s.heap ea cls dx tb
 n0:X.s₀.heap.get? ea=none
 nH:H ea=none
 tbs: ∀T,tb=some T→X.s₀.heap.get? T=none∧H T=none
 apart: ∀p∈X.pn++pins,p.1≠ea∧∀T,tb=some T→p.1≠T
def Rz (X:Cx) (E:XK):Prop:= ∀pins σ H s ea cls dx tb,nI X pins σ H s ea cls dx tb→E cls dx H→X.xe (.ref ea) s
section
variable {P:Program} {w:World} {K:PySem.W.Frag} {mg:Str→Option Value} {base:Heap} {N:List Str} {qual:Str} {scope:Scope} {f:Addr} {cd:Value} {A:Around} {outer:List Env} {s:Shared} {H:Hp} {E:XK}
theorem nq:Rz (eC (ip P w) P w K mg base N qual scope f cd A outer s H E) E:=by
  intro pins σ H1 s1 ea cls dx tb F hE
  have I:=F.inv
  have hst:(eC (ip P w) P w K mg base N qual scope f cd A outer s H E).stack=envOfC qual scope s.heap.objs.size f cd::outer:=rfl
  show wpAny (model P w) (A.deeper (envOfC qual scope s.heap.objs.size f cd)) (leaving (envOfC qual scope s.heap.objs.size f cd) (.ref ea)) _ _ s1
  refine jx (base:=base) (L:=s.heap.objs.size) (by have:=I.ok.frames;exact this) (by have:=I.stack;exact this) rfl F.ex fun h' hx hk=>?_
  have hfree: ∀b∈frs (envOfC qual scope s.heap.objs.size f cd::outer),H1 b=none:=I.d0
  have hin: ∀b,b∈(envOfC qual scope s.heap.objs.size f cd::outer).filterMap (·.frame)→b=s.heap.objs.size∨b∈frs outer:=fun b hb=>by
    rw [List.filterMap_cons] at hb
    exact (List.mem_cons.mp hb).elim .inl .inr
  have hne: ∀b o,s.heap.get? b=some o→b≠ea∧(∀T,tb=some T→b≠T)∧b≠s.heap.objs.size:=fun b o e=>
    ⟨
     fun q=>(by have h1:s.heap.get? ea=none:=F.n0;rw [q,h1] at e;cases e),
     fun T hT q=>(by have h1:s.heap.get? T=none:=(F.tbs T hT).1;rw [q,h1] at e;cases e),
     Nat.ne_of_lt (Heap.lt_size e)⟩
  have B:Un (frs outer) [] H H1 s.heap s1.heap:=I.base
  refine ⟨ea,cls,dx,_,H1,rfl,I.os,I.bare,⟨fun b o q n hb hx=>?_,fun b o q n hb hx=>?_,B.free,fun b o q hx=>?_,B.tups,B.frzs,B.tbls⟩,fun b o q=>?_,hx,⟨F.n0,?_,F.nH,I.hok.fresh (Nat.le_refl _)⟩,hE⟩
  ·
    obtain ⟨n1,n2,n3⟩:=hne b o q
    exact hk.keep b o (fun hm=>(hin b hm).elim n3 hb) n1 n2 (B.keep b o q n hb hx)
  ·
    obtain ⟨sl,e⟩:=B.slot b o q n hb hx
    obtain ⟨sl',e'⟩:=hk.slot b _ (by rw [List.filterMap_cons];exact List.mem_cons_of_mem _ hb) e
    exact ⟨sl',e'⟩
  ·
    obtain ⟨o',e⟩:=B.there b o q hx
    exact hk.there b o' e
  · have some_ne: ∀c u,H1 c=some u→c ∉ (envOfC qual scope s.heap.objs.size f cd::outer).filterMap (·.frame)∧c≠ea∧∀T,tb=some T→c≠T:=fun c u e=>
      ⟨fun hm=>(by rw [hfree c hm] at e;cases e),fun z=>(by rw [z,F.nH] at e;cases e),fun T hT z=>(by rw [z,(F.tbs T hT).2] at e;cases e)⟩
    refine (I.hok b o q).stay (fun c u hc e=>?_) (fun c e=>e) (fun c xs e=>e)
    rcases hc with z|z
    ·
      obtain ⟨m1,m2,m3⟩:=some_ne b o q
      subst z
      exact hk.keep _ u m1 m2 m3 e
    ·
      obtain ⟨m1,m2,m3⟩:=some_ne c _ z
      exact hk.keep c u m1 m2 m3 e
  · exact Heap.get?_none_of_le I.sz
end
section
variable {X:Cx} {E:XK}
theorem pq {pins:List (Addr×Obj)} {σ:St} {H:Hp} {s s':Shared} {e:Value} (hex:X.ex= []) (I:Inv X pins σ H s) (h:ip X.prog X.w X.stack H s E e s'): ∃ea cls dx T H',e = .ref ea∧nI X pins σ H' s' ea cls dx (some T)∧E cls dx H':=by
 obtain ⟨ea,cls,dx,T,H',rfl,os,bare,un,hok,hx,⟨n1,n2,n3,n4⟩,hE⟩:=h
 have I':=I.call' (ch:=[]) os un hok bare (fun b z=>absurd z (by simp))
 have old: ∀b,s.heap.get? b=none→X.s₀.heap.get? b=none:=fun b hb=>by
  cases q:X.s₀.heap.get? b with
  |none=>rfl
  |some o=>
   obtain ⟨o',e⟩:=I.base.there b o q (by rw [hex];simp)
   rw [hb] at e;cases e
 refine ⟨ea,cls,dx,T,H',rfl,⟨I',hx,old ea n1,n3,(fun T' e=>by cases e;exact ⟨old T n2,n4⟩),fun p hp=>⟨fun z=>?_,fun T' e z=>?_⟩⟩,hE⟩
 ·
  have q:=(I.pin p hp).1
  rw [z,n1] at q;cases q
 ·
  cases e
  have q:=(I.pin p hp).1
  rw [z,n2] at q;cases q
end
theorem b3.fnX {P:Program} {w:World} {K:PySem.W.Frag} {mg:Str→Option Value} {base:Heap} {CX:dF} {x:Str} {st:Stmt} {N ps:List Str} {k:Nat} {sp:Sp} (F:b3 K mg x st) (S:bb N ps (aj st))
  (hb: ∀(kV doc pm:Value) (an:Option Addr) (cdv ct:Value) (us:List Value),us.length=ps.length→bindArgs (PySem.W.fnOf x x (bN st) (bj st) (aj st) .none kV doc pm an cdv ct) ⟨us,[]⟩=pure (ps.zip us))
  (len: ∀vs H Q E,sp vs H Q E→vs.length=ps.length)
  (
   hbody: ∀(f:Addr) (cdv:Value) (A:Around) (outer:List Env) (s:Shared) (H:Hp) (vs:List V) (Q:VK) (E:XK),bL k (A.deeper (envOfC x (aj st) s.heap.objs.size f cdv))→sp vs H Q E→
   ∃t,eI (eC CX P w K mg base N x (aj st) f cdv A outer s H E) (bj st) t∧t {nx:=fun _ H'=>Q .non H',rt:=Q} (start N vs) H):FnAt P w K mg base CX x (k+1) ps sp:=by
 obtain ⟨f,fd,F,hm⟩:=F
 have bd:=F.binds hb
 have kp:=F.kp
 obtain ⟨oc,od,kV,doc,pm,an,cdv,ct,osl,rfl,lk,hcd⟩:=F.ex
 exact ⟨f,_,kW lk hcd S len fun A outer s H vs Q E hr hsp=>hbody f cdv A outer s H vs Q E hr hsp,hm,kp,bd,oc,od,osl,lk⟩
theorem bf.there {P:Program} {w:World} {H:Hp} {h:Heap} {a:Addr} {o:HO} (x:bf P w H h a o): ∃u,h.get? a=some u:=by
 cases o with
 |lst xs=>obtain ⟨_,_,_,_,e⟩:=x;exact ⟨_,e⟩
 |tup xs=>obtain ⟨_,_,_,⟨o,e,_⟩⟩:=x;exact ⟨_,e⟩
 |dK kvs=>obtain ⟨_,_,_,_,o,_,_,e,_⟩:=x;exact ⟨_,e⟩
 |dT kvs=>obtain ⟨_,_,_,_,o,_,_,e,_⟩:=x;exact ⟨_,e⟩
 |set S n=>obtain ⟨o,_,_,_,e,_⟩:=x;exact ⟨_,e⟩
 |ins C dx fs=>obtain ⟨_,_,_,e,_⟩:=x;exact ⟨_,e⟩
 |own y=>obtain ⟨_,e⟩:=x;exact ⟨_,e⟩
 |xd fs=>obtain ⟨_,⟨_,_,_,e,_⟩,_⟩:=x;exact ⟨_,e⟩
 |rng lo hi=>obtain ⟨_,_,_,e⟩:=x;exact ⟨_,e⟩
 |frz ob u=>obtain ⟨e,_⟩:=x;exact ⟨_,e⟩
 |tbl ps=>exact ⟨_,(show h.get? a=some _ from x)⟩
 |met f y=>exact ⟨_,(show h.get? a=some _ from x)⟩
 |ext φ=>obtain ⟨_,e,_⟩:=x;exact e
noncomputable abbrev fh:List Value:=[.type "ValueError",.type "Exception",.type "BaseException",.type "object"]
structure gE (K:PySem.W.Frag) (mg:Str→Option Value) (x:Str) (C R:Addr) (ini:Option Value):Prop where
 qP:mg x=some (.ref C)
 cls: ∃N nm q bs sn sub ab col dd k0 k1 k2 k3 k5,K.lookup C=some (excClassObj nm q C N bs (.ref R::fh) true sn sub ab col dd k0 k1 k2 k3 k5 "ValueError.__new__")∧PySem.W.nsOkIn K N=true∧PySem.W.nsIn K N "__init__" = some ini∧PySem.W.nsIn K N "__setattr__" = some none
 road: ∃c0 dd cd sl,K.lookup R=some {cls:=c0,dict:=dd,data:= .cls cd,slots:=sl}∧PySem.W.nsOkIn K cd.ns=true∧PySem.W.nsIn K cd.ns "__init__" = some none∧PySem.W.nsIn K cd.ns "__setattr__" = some none
theorem lG {K:PySem.W.Frag} {h:Heap} {mg:Str→Option Value} {x:Str} {C R N:Addr} {ini:Option Value} {nm q:Str} {bs:List Value} {sn:List Str} {sub:List Value} {ab:Bool} {col:Option Bool} {dd ddR:Option Addr} {k0 k1 k2 k3 k5:Option Value} {c0:Value} {cd:ClassData} {sl:Array (Option Value)} (X:K.In h) (G:h.Ns mainGlobals mg)
  (a:PySem.W.nsIn K mainGlobals x=some (some (.ref C))) (l:K.lookup C=some (excClassObj nm q C N bs (.ref R::fh) true sn sub ab col dd k0 k1 k2 k3 k5 "ValueError.__new__")) (o:PySem.W.nsOkIn K N=true) (i:PySem.W.nsIn K N "__init__" = some ini) (t:PySem.W.nsIn K N "__setattr__" = some none)
  (l':K.lookup R=some {cls:=c0,dict:=ddR,data:= .cls cd,slots:=sl}) (o':PySem.W.nsOkIn K cd.ns=true) (i':PySem.W.nsIn K cd.ns "__init__" = some none) (t':PySem.W.nsIn K cd.ns "__setattr__" = some none):gE K mg x C R ini:=
 ⟨PySem.W.mg_of X G a,⟨N,nm,q,bs,sn,sub,ab,col,dd,k0,k1,k2,k3,k5,l,o,i,t⟩,⟨c0,ddR,cd,sl,l',o',i',t'⟩⟩
theorem gE.tail {K:PySem.W.Frag} {mg:Str→Option Value} {x:Str} {C R:Addr} {ini:Option Value} (c:gE K mg x C R ini) {h:Heap} (X:K.In h):OwnTail h fh (.ref R::fh):=by
 obtain ⟨c0,dd,cd,sl,l,o,i,_⟩:=c.road
 exact .own (X _ _ l) (.of_isNs (PySem.W.isNs_of_in X o)) (PySem.W.nsMap_none_of_in X o i) .base
section
variable {X:Cx} {E:XK}
def lM (E:XK) (C:Addr):TS:=fun _ _ H=>E (.ref C) none H
end
section
variable {prog:Program} {w:World} {A:Around} {s:Shared} {K:PySem.W.Frag} {x C R:Addr} {cd:ClassData} {name:Str} {v:Value}
theorem p_ {E:Value→Shared→Prop} {vs:Array Value} {Q:Unit→Shared→Prop} (X:K.In s.heap) (hx:s.heap.get? x=some ⟨.ref C,none,.fields vs,#[]⟩) (hc:PySem.W.clsIn K C=some cd) (hm:cd.mro = .ref C :: .ref R::fh) (hd:cd.hasDict=true)
  (hs:PySem.W.findIn K (.ref C) "__setattr__" = some (some (.builtin "object.__setattr__"))) (ha:PySem.W.findIn K (.ref C) name=some none)
  (h: ∀h' t',h'.get? x=some ⟨.ref C,some s.heap.objs.size,.fields vs,#[]⟩→h'.Ns1 s.heap.objs.size (fun y=>if y=name then some v else none)→(∀b o,b≠x→s.heap.get? b=some o→h'.get? b=some o)→Q () {s with heap:=h',toks:=t'}):
  wpAny (model prog w) A (setAttr (.ref x) name v) Q E s:=by
 have I:PySem.W.InstAt s.heap x ⟨.ref C,none,.fields vs,#[]⟩ C none:=⟨hx,rfl,rfl,True.intro⟩
 have F:=PySem.F.store_object
 have lc:PySem.W.Looks (model prog w) s.heap (classData C) cd:=PySem.W.looks_clsIn X hc
 have sub:PySem.W.Looks (model prog w) s.heap (isInstance (.ref x) (.type "object")) true:=I.type.andThen (PySem.W.looks_mroIn X (by unfold PySem.W.mroIn;rw [hc,Option.bind_some,hm];rfl))
 have mro:PySem.W.Looks (model prog w) s.heap (mroOf (.ref C)) cd.mro:=lc.andThen .now
 refine PySem.W.set_plain X I hs ?_
 refine codeAny_call_builtin F.slot.plain F.entry ?_
 refine @PySem.W.check_slot (model prog w) _ _ {s with toks:=s.toks+1} "object.__setattr__" "object" "__setattr__" (.ref x) [.str name s.toks,v] [] _ F.kind F.split sub (F.args (.ref x) (.str name s.toks) v) ?_
 rw [PySem.W.osa_eq,refuse_eq]
 refine wpAny_bind (wpAny_bind (I.type.here (s:={s with toks:=s.toks+1}) (wpAny_bind (mro.here (s:={s with toks:=s.toks+1}) ?_))))
 rw [hm,refuseLoop_ref,refuseLoop_ref,PySem.F.store_ValueError.passes]
 refine wpAny_pure (wpAny_bind (I.type.here (s:={s with toks:=s.toks+1}) (wpAny_bind ((PySem.W.looks_findIn X ha).here (s:={s with toks:=s.toks+1}) (wpAny_bind (wpAny_pure ?_))))))
 refine wpAny_bind (wpAny_pure (wpAny_bind (wpAny_bind (wpAny_loadPart (s:={s with toks:=s.toks+1}) hx (wpAny_bind (lc.here (s:={s with toks:=s.toks+1}) ?_))))))
 rw [hd,if_neg (by decide)]
 have sx:x≠s.heap.objs.size:=Nat.ne_of_lt (Heap.lt_size hx)
 have h1:(s.heap.push {cls:= .type "dict",data:= .dict #[]}).get? x=some ⟨.ref C,none,.fields vs,#[]⟩:=Heap.get?_push_of_some _ hx
 have h2:=Heap.get?_update_self (fun o:Obj=>{cls:=o.cls,dict:=some s.heap.objs.size,data:=o.data,slots:=o.slots}) h1 rfl
 have h3:((s.heap.push {cls:= .type "dict",data:= .dict #[]}).update x fun o=>{cls:=o.cls,dict:=some s.heap.objs.size,data:=o.data,slots:=o.slots}).get? s.heap.objs.size=some {cls:= .type "dict",data:= .dict #[]}:=
  (Heap.get?_update_other _ _ sx).trans (Heap.get?_push_size _ rfl)
 have hn:((s.heap.push {cls:= .type "dict",data:= .dict #[]}).update x fun o=>{cls:=o.cls,dict:=some s.heap.objs.size,data:=o.data,slots:=o.slots}).Ns s.heap.objs.size (fun _=>none):=
  ⟨_,#[],_,h3,rfl,fun e he=>absurd he (by simp),fun _=>rfl⟩
 show wpAny _ _ (alloc {cls:= .type "dict",data:= .dict #[]} >>= fun d=>update x (fun o=>{cls:=o.cls,dict:=some d,data:=o.data,slots:=o.slots}) >>= fun _=>dictMade (.ref C) x d) _ _ _
 refine wpAny_bind (wpAny_alloc ?_)
 refine wpAny_bind (wpAny_update (s:={s with heap:=s.heap.push {cls:= .type "dict",data:= .dict #[]},toks:=s.toks+1}) h1 ?_)
 refine wpAny_pure ?_
 show wpAny _ _ (Builtin.ObjectAttr.storeInDict s.heap.objs.size (.str name s.toks) name v) _ _ _
 unfold Builtin.ObjectAttr.storeInDict Builtin.ObjectAttr.newKeyGuard
 refine wpAny_bind (wpAny_pure (wpAny_bind (wpAny_nsSet1 (Heap.Ns1.of_empty hn) fun h' n' sb=>?_)))
 obtain ⟨oD,esD,epD,hoD,hdD,hcD⟩:=n'.count (PySem.Within.cons name v PySem.Within.nil)
 refine wpAny_bind (wpAny_lookBehind hoD (by rw [hdD];exact pastItsLine_dict (Nat.le_trans hcD (by rw [List.length_cons,List.length_nil,sizeLine_eq];omega))) ?_)
 refine wpAny_pure (h h' _ ((sb.2 x sx).trans h2) ?_ fun b o ne hb=>?_)
 ·
  obtain ⟨o',es,ep,e1,e2,e3,eu,e4⟩:=n'
  exact ⟨o',es,ep,e1,e2,e3,eu,fun y=>by rw [e4 y]⟩
 ·exact (sb.2 b (Nat.ne_of_lt (Heap.lt_size hb))).trans ((Heap.get?_update_other _ _ (Ne.symm ne)).trans (Heap.get?_push_of_some _ hb))
end
section
variable {prog:Program} {w:World} {A:Around} {E:Value→Shared→Prop} {h:Heap} {g:Array GenState} {d:Drawn} {t:Nat} {os:OsState} {K:PySem.W.Frag}
variable {nm q:Str} {C N:Addr} {bs bm:List Value} {hdct:Bool} {sn:List Str} {sub:List Value} {ab:Bool} {col:Option Bool} {dd:Option Addr} {k0 k1 k2 k3 k5:Option Value}
theorem lL {rest:List Value} {fI:Addr} {Q:Fin→Shared→Prop} (X:K.In h) (T:OwnTail h fh bm)
  (hC:h.get? C=some (excClassObj nm q C N bs bm hdct sn sub ab col dd k0 k1 k2 k3 k5 "ValueError.__new__")) (hi:PySem.W.findIn K (.ref C) "__init__" = some (some (.ref fI))) (hf:PySem.W.typeIn K (.ref fI)=some (.type "function"))
  (hr:rest.length≤sizeLine)
  (hq: ∀h' e,Heap.MadeExcOf h h' e (.ref C) rest→wpAny (model prog w) A (call (.ref fI) (.ref e::rest)) (fun r s'=>r = .none∧Q (.done (.ret (.ref e))) s') E ⟨h',g,d,t,os⟩):
  wpAny (model prog w) A (Builtin.«type.__call__» ⟨.ref C::rest,[]⟩) Q E ⟨h,g,d,t,os⟩:=by
 have F:=PySem.F.excBase_ValueError
 repeat (first|with_reducible refine wpAny_loadPart_at hC ?_|with_reducible refine wpAny_madeBy_exc hC ?_|wp_step)
 refine codeAny_call_builtin_code (Code.quiet_builtin _ F.quiet) (wpAny_check_new_subT F T hC ?_)
 refine codeAny_exc_new_subT F T hC ?_ hr
 show wpAny _ _ _ _ _ _
 have up: ∀b o,h.get? b=some o→((h.push {cls:= .type "tuple",data:= .seq rest.toArray}).push {cls:= .ref C,data:= .fields #[.ref h.objs.size,.none,.none,.none,.bool false,.none]}).get? b=some o:=fun b o e=>Heap.get?_push_of_some _ (Heap.get?_push_of_some _ e)
 have C2:=up _ _ hC
 have X2:=X.keeps up
 have e2:((h.push {cls:= .type "tuple",data:= .seq rest.toArray}).push {cls:= .ref C,data:= .fields #[.ref h.objs.size,.none,.none,.none,.bool false,.none]}).get? (h.objs.size+1)=some {cls:= .ref C,data:= .fields #[.ref h.objs.size,.none,.none,.none,.bool false,.none]}:=by heap_get
 have t2:((h.push {cls:= .type "tuple",data:= .seq rest.toArray}).push {cls:= .ref C,data:= .fields #[.ref h.objs.size,.none,.none,.none,.bool false,.none]}).get? h.objs.size=some {cls:= .type "tuple",data:= .seq rest.toArray}:=Heap.get?_push_of_some _ (Heap.get?_push_at rfl rfl)
 have made:Heap.MadeExcOf h ((h.push {cls:= .type "tuple",data:= .seq rest.toArray}).push {cls:= .ref C,data:= .fields #[.ref h.objs.size,.none,.none,.none,.bool false,.none]}) (h.objs.size+1) (.ref C) rest:=
  ⟨up,Heap.get?_none_of_le (Nat.le_succ _),h.objs.size,e2,Heap.get?_none_of_le (Nat.le_refl _),t2⟩
 have q2:=hq _ _ made
 have me:(Value.ref C::bm).contains (.ref C)=true:=by simp
 generalize (h.push {cls:= .type "tuple",data:= .seq rest.toArray}).push {cls:= .ref C,data:= .fields #[.ref h.objs.size,.none,.none,.none,.bool false,.none]}=h2 at*
 unfold isInstance
 repeat (first|with_reducible refine wpAny_loadPart_at e2 ?_|(with_reducible refine wpAny_isSubtype_exc C2 ?_;rw [me])|wp_step)
 show wpAny _ _ (typeLookup (.ref C) _) _ _ _
 refine (PySem.W.looks_findIn X2 hi).here (s:=⟨h2,g,d,t,os⟩) ?_
 refine wpAny_holding (wpAny_bind ((PySem.W.bind_fn X2 _ hf).here (s:=⟨h2,g,d,t,os⟩) (wpAny_bind (wpAny_mono q2 (fun r s' hr=>?_) fun _ _ z=>z))))
 obtain ⟨rfl,hQ⟩:=hr
 wp_walk
 exact hQ
theorem pJ {rest:List Value} {fI:Addr} {Q:Value→Shared→Prop} (X:K.In h) (T:OwnTail h fh bm)
  (hC:h.get? C=some (excClassObj nm q C N bs bm hdct sn sub ab col dd k0 k1 k2 k3 k5 "ValueError.__new__")) (hi:PySem.W.findIn K (.ref C) "__init__" = some (some (.ref fI))) (hf:PySem.W.typeIn K (.ref fI)=some (.type "function"))
  (hr:rest.length≤sizeLine)
  (hq: ∀h' e,Heap.MadeExcOf h h' e (.ref C) rest→wpAny (model prog w) (A.under (.builtin "type.__call__" ⟨.ref C::rest,[]⟩)) (call (.ref fI) (.ref e::rest)) (fun r s'=>r = .none∧Q (.ref e) s') E ⟨h',g,d,t,os⟩):
  wpAny (model prog w) A (call (.ref C) rest) Q E ⟨h,g,d,t,os⟩:=by
 have f1:=tc_lookup
 have f2:=tc_bind (.ref C)
 have hT:(⟨h,g,d,t,os⟩:Shared).TypeIs (.ref C) "type" :=⟨_,hC,rfl⟩
 refine wpAny_call (codeAny_of_tree ?_)
 show wpAny _ _ (callAny (.ref C) _) _ _ _
 repeat (any_goals (first|assumption|with_reducible refine wpAny_loadPart_at hC ?_|wp_step))
 refine ⟨rfl,?_⟩
 refine codeAny_call_builtin_at (Code.quiet_builtin _ (by decide+kernel)) entry_typeCall (wpAny_check_type_call_sub hC (lL X T hC hi hf hr fun h' e hm=>?_))
 exact hq h' e hm
theorem lT {s:Shared} {env:Env} {x:Sem Value} {Q:Flow→Shared→Prop} (hbase:bm.contains (.type "BaseException")=true) (hh:A.handled=none)
  (hx:wpAny (model prog w) A x (fun v s₁=> ∃e dx vs,v = .ref e∧s₁.heap.get? C=some (excClassObj nm q C N bs bm hdct sn sub ab col dd k0 k1 k2 k3 k5 "ValueError.__new__")∧s₁.heap.get? e=some ⟨.ref C,dx,.fields vs,#[]⟩∧vs[1]?=some .none∧E (.ref e) s₁) E s):
  wpAny (model prog w) A (raiseStmt env (some x) none) Q E s:=by
 have me:(Value.ref C::bm).contains (.type "BaseException")=true:=by rw [List.contains_cons,hbase,Bool.or_true]
 unfold raiseStmt
 refine wpAny_bind (wpAny_mono hx (fun v s₁ h₁=>?_) fun _ _ x=>x)
 obtain ⟨e,dx,vs,rfl,hC,he,h1,hE⟩:=h₁
 obtain ⟨hp,g,d,tk,os⟩:=s₁
 repeat (first|with_reducible refine wpAny_loadPart_at he ?_|with_reducible refine wpAny_loadPart_at hC ?_|(with_reducible refine wpAny_isSubtype_exc hC ?_;rw [me])|wp_step)
 rw [h1]
 refine wpAny_pure ?_
 rw [if_neg (by decide)]
 exact wpAny_pure (wpAny_raiseNew_none hh hE)
end
def jG (e C:Addr) (dx:Option Addr):Heap→Prop:=fun h=> ∃vs:Array Value,h.get? e=some ⟨.ref C,dx,.fields vs,#[]⟩∧1<vs.size∧vs[1]?=some .none
theorem kZ {P:Program} {w:World} {H:Hp} {h:Heap} {e C:Addr} {dx:Option Addr} (x:jG e C dx h):bf P w H h e (.ext (jG e C dx)):=
 ⟨x,x.elim fun vs q=>⟨_,q.1⟩,fun h1 h2 x1 k=>by obtain ⟨vs,q,r⟩:=x1;exact ⟨vs,k _ q,r⟩⟩
noncomputable def cU (H:Hp) (e:Addr):Hp:=fun b=>if b=e then none else H b
theorem bW {H:Hp} {e b:Addr} (n:b≠e):cU H e b=H b:=by unfold cU;rw [if_neg n]
theorem eA {H:Hp} {e:Addr}:cU H e e=none:=by unfold cU;rw [if_pos rfl]
section
variable {X:Cx} {pins:List (Addr×Obj)} {σ:St} {H:Hp} {s:Shared} {h':Heap} {e C:Addr}
theorem Inv.drop {φ:Heap→Prop} (I:Inv X pins σ H s) (h:H e=some (.ext φ)):Inv X pins σ (cU H e) s:=by
 have ne: ∀{b:Addr} {o:HO},H b=some o→(∀ψ,o≠ .ext ψ)→b≠e:=fun {b o} q n z=>by
  subst z
  rw [h] at q
  injection q with q
  exact n φ q.symm
 refine I.un (t':=s.toks) (h':=s.heap) ⟨fun b o q n _ _=>q,fun b o q n _ _=>⟨o.slots,q⟩,fun b o q n _=>?_,fun b o q _=>⟨o,q⟩,fun b xs q=>?_,fun b o u q=>?_,fun b ps q=>⟨#[],?_⟩⟩ fun b o q=>?_
 ·
  unfold cU
  split
  ·rfl
  ·exact n
 ·rw [bW (ne q (by simp))];exact q
 ·rw [bW (ne q (by simp))];exact q
 ·rw [bW (ne q (by simp)),q];simp
 ·
  have nb:b≠e:=fun z=>by rw [z,eA] at q;cases q
  rw [bW nb] at q
  exact (I.hok b o q).stay (fun c u _ z=>z) (fun c z=>by rw [bW (ne z (by simp))];exact z) fun c xs z=>by rw [bW (ne z (by simp))];exact z
theorem Inv.setx {vs:Array Value} {y:V} {u:Value} {f:Str} {t':Nat} (I:Inv X pins σ H s) (hH:H e=some (.ext (jG e C none))) (he:h'.get? e=some ⟨.ref C,some s.heap.objs.size,.fields vs,#[]⟩) (v1:1<vs.size) (v2:vs[1]?=some .none)
  (hn:h'.Ns1 s.heap.objs.size (fun z=>if z=f then some u else none)) (k: ∀b o,b≠e→s.heap.get? b=some o→h'.get? b=some o) (ry:RelV y u):
  Inv X pins σ (upd (upd H s.heap.objs.size (.xd [(f,y)])) e (.ext (jG e C (some s.heap.objs.size)))) {s with heap:=h',toks:=t'}:=by
 have eN:e≠s.heap.objs.size:=Nat.ne_of_lt (I.hok e _ hH).lt
 have hN:H s.heap.objs.size=none:=I.hok.fresh (Nat.le_refl _)
 have nn: ∀{b:Addr} {o:HO},H b=some o→b≠s.heap.objs.size:=fun {b o} q z=>by rw [z,hN] at q;cases q
 have ne: ∀{b:Addr} {o:HO},H b=some o→(∀ψ,o≠ .ext ψ)→b≠e:=fun {b o} q n z=>by
  subst z
  rw [hH] at q
  injection q with q
  exact n _ q.symm
 have fr: ∀b,H b=none→b≠e:=fun b q z=>by rw [z,hH] at q;cases q
 refine I.un (t':=t') ⟨fun b o q n _ _=>k b o (fr b n) q,fun b o q n _ _=>⟨o.slots,k b o (fr b n) q⟩,fun b o q n _=>?_,fun b o q _=>?_,fun b xs q=>?_,fun b o u q=>?_,fun b ps q=>⟨#[],?_⟩⟩ fun b o q=>?_
 ·rw [af (fr b n),af (Nat.ne_of_lt (Heap.lt_size q))];exact n
 ·
  by_cases z:b=e
  ·exact ⟨_,z▸he⟩
  ·exact ⟨o,k b o z q⟩
 ·rw [af (ne q (by simp)),af (nn q)];exact q
 ·rw [af (ne q (by simp)),af (nn q)];exact q
 ·rw [af (ne q (by simp)),af (nn q),q];simp
 ·
  by_cases z:b=e
  ·
   subst z
   rw [ak] at q
   cases q
   exact kZ ⟨vs,he,v1,v2⟩
  ·
   rw [af z] at q
   by_cases z2:b=s.heap.objs.size
   ·
    subst z2
    rw [ak] at q
    cases q
    refine ⟨_,hn,fun g=>?_⟩
    show ig (List.lookup g [(f,y)]) (if g=f then some u else none)
    by_cases c:g=f
    ·
     rw [if_pos c,c]
     simp only [List.lookup,BEq.rfl]
     exact ry
    ·
     rw [if_neg c]
     have:(g == f)=false:=beq_eq_false_iff_ne.mpr c
     simp only [List.lookup,this]
     exact True.intro
   ·
    rw [af z2] at q
    refine (I.hok b o q).stay (fun c u hc g=>?_) (fun c g=>by rw [af (ne g (by simp)),af (nn g)];exact g) fun c xs g=>by rw [af (ne g (by simp)),af (nn g)];exact g
    rcases hc with r|r
    ·exact k c u (r▸z) g
    ·exact k c u (ne r (by simp)) g
end
structure ie (K:PySem.W.Frag) (C:Addr) (f:Str):Prop where
 sa:PySem.W.findIn K (.ref C) "__setattr__" = some (some (.builtin "object.__setattr__"))
 no:PySem.W.findIn K (.ref C) f=some none
def jY (C:Addr) (ta tv:TE) (f:Str):TS:=fun D σ H=>tv σ H fun y H1=>ta σ H1 fun x H2=> ∃e,x = .ref e∧H2 e=some (.ext (jG e C none))∧∀dx,H2 dx=none→D.nx σ (upd (upd H2 dx (.xd [(f,y)])) e (.ext (jG e C (some dx))))
section
variable {X:Cx} {E:XK}
theorem gE.cd {K:PySem.W.Frag} {mg:Str→Option Value} {x:Str} {C R:Addr} {ini:Option Value} (c:gE K mg x C R ini): ∃cd:ClassData,PySem.W.clsIn K C=some cd∧cd.mro = .ref C :: .ref R::fh∧cd.hasDict=true:=by
 obtain ⟨N,nm,q,bs,sn,sub,ab,col,dd,k0,k1,k2,k3,k5,l,_⟩:=c.cls
 unfold PySem.W.clsIn
 rw [l]
 exact ⟨_,rfl,rfl,rfl⟩
theorem mr {o value:Expr} {f x:Str} {C R:Addr} {ini:Option Value} {pos pos':Pos} {ta tv:TE} (c:gE X.K X.mg x C R ini) (m:ie X.K C f) (ha:PE X o ta) (hv:PE X value tv) (hs:du value=false:=by rfl):PS X (.Assign [.Attribute o f pos'] value pos) (jY C ta tv f):=by
 intro pins s σ H D I h
 obtain ⟨cd,hc,hm,hd⟩:=c.cd
 refine plainObj_wpAny_Assign_Attribute (thn (hv pins s σ H _ I h) fun u s1 ⟨y,H1,I1,ry,q⟩=>thn (ha pins s1 σ H1 _ I1 q) fun ov s2 ⟨x,H2,I2,rx,e,ex,eH,q2⟩=>?_) (cM hs)
 subst ex
 obtain rfl:ov=Value.ref e:=rx
 obtain ⟨⟨vs,he,v1,v2⟩,_⟩:=I2.hok e _ eH
 refine p_ I2.dh he hc hm hd m.sa m.no fun h' t' g1 g2 g3=>⟨σ,_,I2.setx eH g1 v1 v2 g2 g3 ry,q2 _ (I2.hok.fresh (Nat.le_refl _))⟩
end
def fm (C:Addr) (sp:Sp) (E:XK) (ta:TA):TS:=fun _ σ H=>ta σ H fun vs H1=> ∀e,H1 e=none→sp (.ref e::vs) (upd H1 e (.ext (jG e C none))) (fun v H2=>v = .non∧∃dx,H2 e=some (.ext (jG e C dx))∧E (.ref C) dx (cU H2 e)) E0
section
variable {X:Cx} {E:XK}
theorem Inv.newx {pins:List (Addr×Obj)} {σ:St} {H:Hp} {s:Shared} {h':Heap} {e C:Addr} {args:List Value} (I:Inv X pins σ H s) (he:H e=none) (hm:Heap.MadeExcOf s.heap h' e (.ref C) args):Inv X pins σ (upd H e (.ext (jG e C none))) {s with heap:=h'}:=by
 obtain ⟨t,oe,_,_⟩:=hm.there
 have ne: ∀{b:Addr} {o:HO},H b=some o→b≠e:=fun {b o} q z=>by rw [z,he] at q;cases q
 refine I.un (t':=s.toks) ⟨fun b o q n _ _=>hm.keeps b o q,fun b o q n _ _=>⟨o.slots,hm.keeps b o q⟩,fun b o q n _=>?_,fun b o q _=>⟨o,hm.keeps b o q⟩,fun b xs q=>?_,fun b o u q=>?_,fun b ps q=>⟨#[],?_⟩⟩ fun b o q=>?_
 ·rw [af (fun z=>by rw [z,hm.new] at q;cases q)];exact n
 ·rw [af (ne q)];exact q
 ·rw [af (ne q)];exact q
 ·rw [af (ne q),q];simp
 ·
  by_cases z:b=e
  ·
   subst z
   rw [ak] at q
   cases q
   exact kZ ⟨_,oe,by show 1<6;decide,rfl⟩
  ·
   rw [af z] at q
   exact (I.hok b o q).stay (fun c u _ g=>hm.keeps c u g) (fun c g=>by rw [af (ne g)];exact g) fun c xs g=>by rw [af (ne g)];exact g
theorem jo {CX:dF} [Quiet CX] {x:Str} {C R:Addr} {ini:Option Value} {k:Nat} {ps:List Str} {sp:Sp} {a:Expr} {es:List Expr} {ta:TA} {np cpos pos:Pos} (c:gE X.K X.mg x C R ini) (G:m6 X.prog X.w X.K X.mg X.base CX C "__init__" k ps sp) (kp:PySem.W.keepIn X.K (.ref C)=true)
  (hr:bL (k+1) X.A) (hz:Rz X E) (hc:X.calm=true) (hex:X.ex= []) (hg:Gl X x) (ha:PA X (a::es) ta) (hdb:(x == ("__debug__" : Str))=false:=by decide)
  (he:starEach (a::es) X.env=(false,eval a X.env)::starEach es X.env:=by rfl) (hpl:(backTo cpos (starEach es X.env)).any (·.1)=false:=by rfl) (hlen: ∀us:List Value,us.length+1=ps.length→us.length≤sizeLine:=by intro us h;simp at h;rw [sizeLine_eq];omega):
  PS X (.Raise (some (.Call (.Name x np) (a::es) [] cpos)) none pos) (fm C sp E ta):=by
 intro pins s σ H D I h
 obtain ⟨f,fd,F,M,hb⟩:=G
 obtain ⟨N,nm,q,bs,sn,sub,ab,col,dd,k0,k1,k2,k3,k5,l,_⟩:=c.cls
 rw [arm_exec_Raise]
 refine wpAny_bind (wpAny_standAt ?_)
 refine lT (nm:=nm) (q:=q) (C:=C) (N:=N) (bs:=bs) (bm:= .ref R::fh) (hdct:=true) (sn:=sn) (sub:=sub) (ab:=ab) (col:=col) (dd:=dd) (k0:=k0) (k1:=k1) (k2:=k2) (k3:=k3) (k5:=k5) ((c.tail I.dh).hasType (by decide+kernel)) (I.ok.hd hc) ?_
 refine wpAny_bind (wpAny_mono (wpAny_Call_Name_kw (dz I hg c.qP (PySem.W.callWith_K (h₀:=X.base) I.ok.mod.kin kp (thn (ha cpos pins s σ H _ I h) fun us s1 ⟨vs,H1,I1,r,q1⟩=>⟨I1.dh,?_⟩) he hpl) hdb)) (fun v s₃ h₃=>wpAny_bind (wpAny_standAt (wpAny_pure h₃))) fun _ _ z=>z)
 have T:=c.tail I1.dh
 have hC:=I1.dh _ _ l
 have hl1:us.length≤sizeLine:=by
  have e0:=(q1 s1.heap.objs.size (I1.hok.fresh (Nat.le_refl _)))
  have e1:=F.len _ _ _ _ e0
  have e2:=r.length
  rw [List.length_cons] at e1
  exact hlen us (by omega)
 obtain ⟨hp,g,d,t,os⟩:=s1
 refine pJ I1.dh T hC M.at_ (beq_iff_eq.mp M.fn) hl1 fun h' e hm=>?_
 have e0:H1 e=none:=by
  cases z:H1 e with
  |none=>rfl
  |some u=>
   obtain ⟨o',e'⟩:=(I1.hok e u z).there
   rw [hm.new] at e';cases e'
 have n0:X.s₀.heap.get? e=none:=by
  cases z:X.s₀.heap.get? e with
  |none=>rfl
  |some o=>
   obtain ⟨o',e'⟩:=I1.base.there e o z (by rw [hex];simp)
   rw [hm.new] at e';cases e'
 have I2:=I1.newx e0 hm
 have hq:=q1 e e0
 have r2:Vals (V.ref e::vs) (Value.ref e::us):= .cons rfl r
 have hl:(Value.ref e::us++ []).length=ps.length:=by
  have z:=F.len _ _ _ _ hq
  rw [List.append_nil,←r2.length]
  exact z
 refine wpAny_call (codeAny_mono (F.run _ X.stack _ _ ⟨Value.ref e::us,[]⟩ (Value.ref e::us) _ _ E0 (hr.make C us []) (I2.pE.make C us []) (by have z:=hb {heap:=h',gens:=g,drawn:=d,toks:=t,os:=os} (Value.ref e::us) I2.dh hl;rw [List.append_nil] at z;exact z) r2 hq) fun r s' hq'=>?_)
 cases r with
 |error x=>exact Quiet.pass X pins σ _ _ x s' I2 hq'
 |ok fl=>
  cases fl with
  |ret u=>
   obtain ⟨v,H',I3,rv,ev,dx,eH,hE⟩:=I2.after hq'
   subst ev
   obtain ⟨⟨ws,oe,w1,w2⟩,_⟩:=I3.hok e _ eH
   exact ⟨rv,e,dx,ws,rfl,I3.dh _ _ l,oe,w2,hz _ _ _ _ _ _ _ none ⟨I3.drop eH,⟨_,ws,oe,rfl,rfl,rfl,w1,w2⟩,n0,eA,(fun T z=>by cases z),fun p hp=>⟨fun z=>(by have q:=(I1.pin p hp).1;rw [z,hm.new] at q;cases q),fun T z=>by cases z⟩⟩ hE⟩
  |next=>exact False.elim hq'
  |brk=>exact False.elim hq'
  |cont=>exact False.elim hq'
end
def cK (e:Addr) (cls:Value) (dx:Option Addr):Heap→Prop:=fun h=> ∃oe vs,h.get? e=some oe∧oe.cls=cls∧oe.dict=dx∧oe.data = .fields vs
theorem pC {P:Program} {w:World} {H:Hp} {h:Heap} {e:Addr} {cls:Value} {dx:Option Addr} (x:cK e cls dx h):bf P w H h e (.ext (cK e cls dx)):=
 ⟨x,x.elim fun oe q=>q.elim fun vs q=>⟨_,q.1⟩,fun h1 h2 x1 k=>by obtain ⟨oe,vs,q,r⟩:=x1;exact ⟨oe,vs,k _ q,r⟩⟩
def kY (T:Addr):Heap→Prop:=fun h=> ∃o,h.get? T=some o
theorem hZ {P:Program} {w:World} {H:Hp} {h:Heap} {e:Addr} (x:kY e h):bf P w H h e (.ext (kY e)):=
 ⟨x,x,fun h1 h2 x1 k=>by obtain ⟨o,q⟩:=x1;exact ⟨o,k _ q⟩⟩
section
variable {X:Cx} {pins:List (Addr×Obj)} {σ:St} {H:Hp} {s:Shared} {h':Heap} {ea:Addr} {cls:Value} {dx tb:Option Addr}
theorem Inv.track {a:Addr} {φ:Heap→Prop} (I:Inv X pins σ H s) (n:H a=none) (n0:X.s₀.heap.get? a=none) (np: ∀p∈X.pn++pins,p.1≠a) (ho: ∃o vs,s.heap.get? a=some o∧o.data = .fields vs)
  (k:bf X.prog X.w (upd H a (.ext φ)) s.heap a (.ext φ)):Inv X pins σ (upd H a (.ext φ)) s:=by
 obtain ⟨o,vs,ho,hd⟩:=ho
 have ne: ∀{b:Addr} {u:HO},H b=some u→b≠a:=fun {b u} q z=>by rw [z,n] at q;cases q
 have nl:X.env.locals≠a:=fun z=>by
  obtain ⟨m,⟨o',es,ep,e1,e2,_⟩,_⟩:=I.loc
  rw [z,ho] at e1;cases e1
  rw [hd] at e2;cases e2
 have nc: ∀x c,X.env.cells.lookup x=some c→c≠a:=fun x c e z=>by
  obtain ⟨v,o',e1,e2⟩:=I.cell x c e
  rw [z,ho] at e1;cases e1
  rw [hd] at e2;cases e2
 refine ⟨I.ok,I.os,I.bare,⟨I.base.keep,I.base.slot,fun b u q m hx=>?_,I.base.there,fun b xs q=>?_,fun b o u q=>?_,fun b ps q=>?_⟩,I.loc,I.cell,?_,fun x c e=>?_,fun p hp=>?_,fun b u q=>?_,I.len⟩
 ·rw [af (fun z=>by rw [z,n0] at q;cases q)];exact I.base.free b u q m hx
 ·
  have q':=I.base.tups b xs q
  rw [af (ne q')];exact q'
 ·
  have q':=I.base.frzs b o u q
  rw [af (ne q')];exact q'
 ·
  obtain ⟨more,q'⟩:=I.base.tbls b ps q
  exact ⟨more,by rw [af (ne q')];exact q'⟩
 ·rw [af nl];exact I.free
 ·rw [af (nc x c e)];exact I.b2 x c e
 ·
  obtain ⟨p1,p2,p3⟩:=I.pin p hp
  exact ⟨p1,by rw [af (np p hp)];exact p2,p3⟩
 ·
  by_cases z:b=a
  ·
   subst z
   rw [ak] at q
   cases q
   exact k
  ·
   rw [af z] at q
   exact (I.hok b u q).stay (fun c v _ g=>g) (fun c g=>by rw [af (ne g)];exact g) fun c xs g=>by rw [af (ne g)];exact g
theorem Inv.left (I:Inv X pins σ H s) {T:Option Addr} (hT: ∀t,T=some t→H t=some (.ext (kY t))) (he:H ea=some (.ext (kY ea))) (hk:qL (frs X.stack) ea T s.heap h') (hx:cK ea cls dx h'):
  Inv X pins σ (upd H ea (.ext (cK ea cls dx))) {s with heap:=h'}:=by
 have ne: ∀{b:Addr} {o:HO},H b=some o→(∀ψ,o≠ .ext ψ)→b≠ea∧∀t,T=some t→b≠t:=fun {b o} q n=>⟨fun z=>by
  subst z
  rw [he] at q
  injection q with q
  exact n _ q.symm,fun t ht z=>by
  subst z
  rw [hT b ht] at q
  injection q with q
  exact n _ q.symm⟩
 have fr: ∀b,H b=none→b≠ea∧∀t,T=some t→b≠t:=fun b q=>⟨(fun z=>by rw [z,he] at q;cases q),fun t ht z=>by rw [z,hT t ht] at q;cases q⟩
 refine I.call' (s':={s with heap:=h'}) (ch:=[]) rfl ⟨fun b o q n hb _=>?_,fun b o q n hb _=>hk.slot b o hb q,fun b o q n _=>?_,fun b o q _=>hk.there b o q,fun b xs q=>?_,fun b o u q=>?_,fun b ps q=>⟨#[],?_⟩⟩ (fun b o q=>?_) I.bare (fun b z=>absurd z (by simp))
 ·exact hk.keep b o hb (fr b n).1 (fr b n).2 q
 ·rw [af (fr b n).1];exact n
 ·rw [af (ne q (by simp)).1];exact q
 ·rw [af (ne q (by simp)).1];exact q
 ·rw [af (ne q (by simp)).1,q];simp
 ·
  by_cases z:b=ea
  ·
   subst z
   rw [ak] at q
   cases q
   exact pC hx
  ·
   rw [af z] at q
   by_cases zT:T=some b
   ·
    have q':=hT b zT
    rw [q] at q'
    injection q' with q'
    subst q'
    obtain ⟨⟨o,e1⟩,_⟩:=(show bf X.prog X.w H s.heap b (.ext (kY b)) from I.hok b _ q)
    obtain ⟨o',e2⟩:=hk.there b o e1
    exact hZ ⟨o',e2⟩
   ·
    have nS: ∀{c:Addr} {u:HO},H c=some u→c ∉ frs X.stack:=fun {c u} g m=>by rw [I.d0 c m] at g;cases g
    refine (I.hok b o q).stay (fun c u hc g=>?_) (fun c g=>by rw [af (ne g (by simp)).1];exact g) fun c xs g=>by rw [af (ne g (by simp)).1];exact g
    rcases hc with r|r
    ·
     rw [r] at g⊢
     exact hk.keep b u (nS q) z (fun t ht e=>zT (e▸ht)) g
    ·exact hk.keep c u (nS r) (ne r (by simp)).1 (ne r (by simp)).2 g
theorem nI.land {T':Addr} (F:nI X pins σ H s ea cls dx tb) (hk:qL (frs X.stack) ea tb s.heap h') (hx:lA h' ea cls dx (some T')):Inv X pins σ (upd H ea (.ext (cK ea cls dx))) {s with heap:=h'}:=by
 obtain ⟨oe,vs,he,hc,hd,hdata,hsz,hT⟩:=F.ex
 have hx':cK ea cls dx h':=by obtain ⟨o,ws,e1,e2,e3,e4,_⟩:=hx;exact ⟨o,ws,e1,e2,e3,e4⟩
 have I1:=F.inv.track (φ:=kY ea) F.nH F.n0 (fun p hp=>(F.apart p hp).1) ⟨oe,vs,he,hdata⟩ (hZ ⟨oe,he⟩)
 cases tb with
 |none=>
  have I2:=I1.left (T:=none) (fun t z=>by cases z) ak hk hx'
  have e:upd (upd H ea (.ext (kY ea))) ea (.ext (cK ea cls dx))=upd H ea (.ext (cK ea cls dx)):=by
   funext b;unfold upd;split<;>rfl
  rw [e] at I2
  exact I2
 |some T=>
  obtain ⟨h1,ne,oT,ts,hT,dT,h3⟩:=hT
  obtain ⟨t0,tH⟩:=F.tbs T rfl
  have I2:=I1.track (φ:=kY T) (by rw [af ne];exact tH) t0 (fun p hp=>(F.apart p hp).2 T rfl) ⟨oT,ts,hT,dT⟩ (hZ ⟨oT,hT⟩)
  have I3:=I2.left (T:=some T) (fun t z=>by cases z;exact ak) (by rw [af (Ne.symm ne)];exact ak) hk hx'
  have I4:=I3.drop (e:=T) (φ:=kY T) (by rw [af ne];exact ak)
  have e:cU (upd (upd (upd H ea (.ext (kY ea))) T (.ext (kY T))) ea (.ext (cK ea cls dx))) T=upd H ea (.ext (cK ea cls dx)):=by
   funext b
   unfold cU upd
   by_cases z:b=T
   ·subst z;simp [ne,tH]
   ·by_cases z2:b=ea<;>simp [z,z2,Ne.symm ne]
  rw [e] at I4
  exact I4
theorem mO {h:Heap} {a:Addr} {o:Obj} (e:h.get? a=some o):h.objs[a]?=some o:=by
 unfold Heap.get? at e
 split at e
 ·cases e
 ·exact e
theorem ey {h:Heap} {a:Addr} {o:Obj} {f:Obj→Obj} (e:h.get? a=some o) (i:f o=o):h.update a f=h:=by
 have e':=mO e
 obtain ⟨objs,l⟩:=h
 have:objs.modify a f=objs:=by
  apply Array.ext (by simp)
  intro j h1 h2
  rw [Array.getElem_modify]
  split
  ·
   rename_i z
   subst z
   have q:objs[a]?=some o:=e'
   rw [Array.getElem?_eq_getElem h2] at q
   rw [Option.some.inj q,i]
  ·rfl
 show (⟨objs.modify a f,l⟩:Heap)=_
 rw [this]
theorem kX {M:Model} {A:Around} {E:Value→Shared→Prop} {T:Addr} {Q:Unit→Shared→Prop} (hx:lA s.heap ea cls dx (some T)) (h:Q () s):wpAny M A (setFlight (.ref ea) none) Q E s:=by
 obtain ⟨oe,vs,he,_,_,hd,hsz,h1,ne,oT,ts,hT,dT,h3⟩:=hx
 unfold setFlight
 refine wpAny_bind (wpAny_field he hd h1 ?_)
 rw [if_pos (by simp)]
 refine wpAny_setField hT dT (Array.getElem?_eq_some_iff.mp h3).1 ?_
 rw [ey hT]
 ·exact h
 ·
  obtain ⟨c,d,dt,sl⟩:=oT
  obtain rfl:dt = .fields ts:=dT
  show Obj.mk c d (.fields (ts.setIfInBounds 3 Value.none)) sl=_
  congr 1
  congr 1
  obtain ⟨l3,e3⟩:=Array.getElem?_eq_some_iff.mp h3
  apply Array.ext (by simp)
  intro j h1 h2
  rw [Array.getElem_setIfInBounds]
  split
  ·rename_i z;subst z;exact e3.symm
  ·rfl
end
noncomputable abbrev Cx.dH (X:Cx) (pn:List (Addr×Obj)) (σ:St) (E:XK):Cx:={X with pn:=X.pn++pn,xe:=fun e s=> ∃ea cls dx tb H',e = .ref ea∧nI X pn σ H' s ea cls dx tb∧E cls dx H'}
noncomputable abbrev Cx.hand (X:Cx) (e:Value):Cx:={X with A:=X.A.mark (some e),calm:=false,xe:=fun _ _=>False}
section
variable {X:Cx} {pins pn:List (Addr×Obj)} {σ σ0:St} {H:Hp} {s:Shared} {E:XK}
theorem Cx.Ok.dH (ok:X.Ok):(X.dH pn σ E).Ok:=
 ⟨ok.mod,ok.kind,ok.glob,ok.blt,ok.above,ok.inj,ok.has,ok.cab,ok.hd,ok.frames,ok.stk,ok.exf,ok.bs,ok.bsz,ok.noex,ok.exfs,ok.funs,ok.frf⟩
theorem Cx.Ok.untry (ok:(X.dH pn σ E).Ok):X.Ok:=
 ⟨ok.mod,ok.kind,ok.glob,ok.blt,ok.above,ok.inj,ok.has,ok.cab,ok.hd,ok.frames,ok.stk,ok.exf,ok.bs,ok.bsz,ok.noex,ok.exfs,ok.funs,ok.frf⟩
theorem Cx.Ok.hand {e:Value} (ok:X.Ok):(X.hand e).Ok:=
 ⟨ok.mod,ok.kind,ok.glob,ok.blt,ok.above,ok.inj,ok.has,ok.cab,(fun z=>by cases z),ok.frames,ok.stk,ok.exf,ok.bs,ok.bsz,ok.noex,ok.exfs,ok.funs,ok.frf⟩
theorem Inv.dH (I:Inv X pn σ H s):Inv (X.dH pn σ0 E) [] σ H s:=⟨I.ok.dH,I.os,I.bare,I.base,I.loc,I.cell,I.free,I.b2,fun p hp=>I.pin p (by rw [List.append_nil] at hp;exact hp),I.hok,I.len⟩
theorem Inv.untry (I:Inv (X.dH pn σ0 E) pins σ H s):Inv X pn σ H s:=⟨I.ok.untry,I.os,I.bare,I.base,I.loc,I.cell,I.free,I.b2,fun p hp=>I.pin p (List.mem_append_left _ hp),I.hok,I.len⟩
theorem Inv.hand {e:Value} (I:Inv X pins σ H s):Inv (X.hand e) pins σ H s:=⟨I.ok.hand,I.os,I.bare,I.base,I.loc,I.cell,I.free,I.b2,I.pin,I.hok,I.len⟩
theorem Inv.unhand {e:Value} (ok:X.Ok) (I:Inv (X.hand e) pins σ H s):Inv X pins σ H s:=⟨ok,I.os,I.bare,I.base,I.loc,I.cell,I.free,I.b2,I.pin,I.hok,I.len⟩
theorem nI.untry {ea:Addr} {cls:Value} {dx tb:Option Addr} (F:nI (X.dH pn σ0 E) pins σ H s ea cls dx tb):nI X pn σ H s ea cls dx tb:=⟨F.inv.untry,F.ex,F.n0,F.nH,F.tbs,fun p hp=>F.apart p (List.mem_append_left _ hp)⟩
theorem SP.untry {D:Ends} {f:Flow} {s':Shared} (h:SP (X.dH pn σ0 E) pins D f s'):SP X pn D f s':=by
 cases f with
 |next=>obtain ⟨σ',H',I,q⟩:=h;exact ⟨σ',H',I.untry,q⟩
 |brk=>obtain ⟨σ',H',I,q⟩:=h;exact ⟨σ',H',I.untry,q⟩
 |cont=>obtain ⟨σ',H',I,q⟩:=h;exact ⟨σ',H',I.untry,q⟩
 |ret u=>obtain ⟨v,σ',H',I,r,q⟩:=h;exact ⟨v,σ',H',I.untry,r,q⟩
def ly (CX:dF) (X:Cx) (σ:St) (E:XK):Prop:= ∀(pins:List (Addr×Obj)) (H:Hp) (s:Shared) (e:Value) (s':Shared),Inv X pins σ H s→CX X.stack H s E e s'→X.xe e s'
theorem gk (hex:X.ex= []):ly (ip X.prog X.w) (X.dH pn σ E) σ E:=fun pins H s e s' I h=>by
 obtain ⟨ea,cls,dx,T,H',rfl,F,hE⟩:=pq (X:=X.dH pn σ E) hex I h
 exact ⟨ea,cls,dx,some T,H',rfl,F.untry,hE⟩
end
def jT (σ0:St) (sp:Sp) (E:XK) (t:TA):TE:=fun σ H Q=>σ=σ0∧t σ H fun vs H1=>sp vs H1 Q E
def nW (σ0:St) (C:Addr) (sp:Sp) (E:XK) (t:TA):TE:=fun σ H Q=>σ=σ0∧t σ H fun vs H1=> ∀x dx,H1 x=none→H1 dx=none→dx≠x→
 sp (.ref x::vs) (upd (upd H1 dx (.own x)) x (.ins C dx [])) (fun v H2=>v = .non∧Q (.ref x) H2) E
def qX (σ0:St) (C:Addr) (m:Str) (sp:Sp) (E:XK) (ta:TE) (t:TA):TE:=fun σ H Q=>σ=σ0∧ta σ H fun x H1=>rP C m x H1 (t σ H1 fun vs H2=>sp (x::vs) H2 Q E)
section
variable {X:Cx} {CX:dF} {k n:Nat} {f C:Addr} {fd:FuncData} {ps:List Str} {sp:Sp} {E:XK} {x m:Str} {p pos apos:Pos} {e o:Expr} {es:List Expr} {ta:TE} {t:TA} {σ0:St}
theorem lP {pins:List (Addr×Obj)} {H:Hp} {s:Shared} {Q:VK} {us:List Value} {vs:List V} (F:dZ X.prog X.w X.K X.mg X.base CX k f fd ps sp) (hr:bL k X.A) (hb:Binds X.K fd ps []) (hx:ly CX X σ0 E)
  (I:Inv X pins σ0 H s) (r:Vals vs us) (h:sp vs H Q E):wpAny (model X.prog X.w) X.A (call (.ref f) us) (EP X pins σ0 Q) X.xe s:=by
 have hl:(us++ []).length=ps.length:=by rw [List.append_nil,←r.length];exact F.len _ _ _ _ h
 refine wpAny_call (codeAny_mono (F.run X.A X.stack s H ⟨us,[]⟩ us vs Q E hr I.pE (by have z:=hb s us I.dh hl;rw [List.append_nil] at z;exact z) r h) fun r s' hq=>?_)
 cases r with
 |error e=>exact hx pins H s e s' I hq
 |ok fl=>
  cases fl with
  |ret u=>exact I.after hq
  |next=>exact False.elim hq
  |brk=>exact False.elim hq
  |cont=>exact False.elim hq
theorem kz (G:FnAt X.prog X.w X.K X.mg X.base CX x k ps sp) (hr:bL n X.A) (hk:k≤n) (hg:Gl X x) (hx:ly CX X σ0 E) (ha:PA X (e::es) t)
  (hdb:(x == ("__debug__" : Str))=false:=by decide) (he:starEach (e::es) X.env=(false,eval e X.env)::starEach es X.env:=by rfl) (hpl:(backTo pos (starEach es X.env)).any (·.1)=false:=by rfl):
  PE X (.Call (.Name x p) (e::es) [] pos) (jT σ0 sp E t):=by
 obtain ⟨f,fd,F,hm,kp,b,_⟩:=G
 intro pins s σ H Q I ⟨hσ,h⟩
 subst hσ
 refine wpAny_Call_Name_kw (dz I hg hm ?_ hdb)
 refine PySem.W.callWith_K (h₀:=X.base) I.ok.mod.kin kp (thn (ha pos pins s σ H _ I h) fun us s1 ⟨vs,H1,I1,r,q⟩=>⟨I1.dh,?_⟩) he hpl
 exact lP F (hr.mono hk) b hx I1 r q
end
structure gD (K:PySem.W.Frag) (mg:Str→Option Value) (x:Str) (C:Addr):Prop where
 qP:mg x=some (.ref C)
 ty:PySem.W.typeIn K (.ref C)=some (.type "type")
 ex:PySem.W.mroIn K C (.type "BaseException")=some true
noncomputable def isx (K:PySem.W.Frag) (cls:Value) (C:Addr):Option Bool:=match cls with
 | .ref D=>PySem.W.mroIn K D (.ref C)
 |_=>none
def qA (o:Option Bool) (p q:Prop):Prop:=match o with
 |some true=>p
 |some false=>q
 |none=>False
theorem qy {p q:Prop}:qA (some true) p q=p:=rfl
theorem qz {p q:Prop}:qA (some false) p q=q:=rfl
section
variable {prog:Program} {w:World} {A:Around} {E:Value→Shared→Prop} {s:Shared} {K:PySem.W.Frag}
theorem xmatch {mg:Str→Option Value} {x:Str} {C e:Addr} {oe:Obj} {b:Bool} {Q:Bool→Shared→Prop} (X:K.In s.heap) (he:s.heap.get? e=some oe) (m:gD K mg x C) (hb:isx K oe.cls C=some b) (h:Q b s):
  wpAny (model prog w) A (excMatches (.ref e) (.ref C)) Q E s:=by
 have L1:PySem.W.Looks (model prog w) s.heap (isInstance (.ref C) (.type "tuple")) false:=(PySem.W.looks_typeIn X m.ty).andThen (PySem.W.Looks.of_pure tc_notTuple)
 have L3:PySem.W.Looks (model prog w) s.heap (isSubtype (.ref C) (.type "BaseException")) true:=PySem.W.looks_mroIn X m.ex
 have L2:PySem.W.Looks (model prog w) s.heap (isType (.ref C)) true:=by
  have z:=m.ex
  unfold PySem.W.mroIn at z
  obtain ⟨cd,hc,_⟩:=Option.bind_eq_some_iff.mp z
  unfold PySem.W.clsIn at hc
  split at hc
  ·
   rename_i ho
   intro A' Q' E' s' k q
   unfold isType loadHead
   exact wpAny_bind (wpAny_loadPart (k _ _ (X _ _ ho)) (wpAny_pure q))
  ·cases hc
 have L4:PySem.W.Looks (model prog w) s.heap (typeOf (.ref e)) oe.cls:=(PySem.W.Looks.ld he).andThen .now
 have L5:PySem.W.Looks (model prog w) s.heap (isSubtype oe.cls (.ref C)) b:=by
  unfold isx at hb
  split at hb
  ·
   rename_i D hD
   rw [hD]
   exact PySem.W.looks_mroIn X hb
  ·cases hb
 unfold excMatches
 refine wpAny_bind (L1.here ?_)
 dsimp only
 rw [if_neg (by decide)]
 refine wpAny_bind (wpAny_pure ?_)
 rw [List.forIn_cons]
 refine wpAny_bind (wpAny_bind (wpAny_bind ?_))
 unfold isExcClass
 refine wpAny_bind (L2.here ?_)
 rw [if_pos rfl]
 refine L3.here ?_
 simp only [Bool.not_true,Bool.false_eq_true,if_false]
 refine wpAny_pure ?_
 dsimp only
 rw [List.forIn_nil]
 refine wpAny_pure ?_
 refine wpAny_bind (L4.here ?_)
 rw [List.forIn_cons]
 refine wpAny_bind (wpAny_bind (wpAny_bind (L5.here ?_)))
 cases b with
 |true=>exact wpAny_pure (wpAny_pure (wpAny_pure h))
 |false=>
  refine wpAny_pure ?_
  dsimp only
  rw [List.forIn_nil]
  exact wpAny_pure (wpAny_pure h)
end
section
variable {X:Cx} {pins:List (Addr×Obj)} {σ:St} {H:Hp} {s:Shared} {M:Model} {A:Around} {E:Value→Shared→Prop}
theorem c3 {i:Nat} {x:Str} {pos:Pos} {Q:Unit→Shared→Prop} (I:Inv X pins σ H s) (hN:X.N.Nodup) (hi:X.N[i]?=some x) (hk:X.env.scope.names.lookup x=some .local)
  (h: ∀s',Inv X pins (σ.set i none) H s'→Q () s'):wpAny M A (do bindName X.env x .none;unbindBehindTheSuite X.env x pos) Q E s:=by
 refine wpAny_bind (wpAny_bindName (cu (v:= .non) I hN hi (.inl hk) rfl (fun s1 I1=>?_) (.inr hk)))
 have hiσ:i<σ.length:=by rw [I.len];exact (List.getElem?_eq_some_iff.mp hi).1
 obtain ⟨m,hn,hl⟩:=id I1.loc
 have hcls:(X.env.scope.kind == .class||(X.env.scope.kind == .module&&X.env.locals != X.env.globals))=false:=by rw [I.ok.kind];rfl
 have hkk:X.env.kindOf x=some .local:=hk
 have hv: ∃u,m x=some u:=by
  obtain ⟨u,_,q⟩:=hl i x .non hi (by rw [List.getElem?_set_self hiσ]) (.inl hk)
  rcases q with ⟨_,q⟩|⟨q,_⟩
  ·exact ⟨u,q⟩
  ·rcases q with q|q<;>rw [hkk] at q<;>cases q
 obtain ⟨u,hv⟩:=hv
 unfold unbindBehindTheSuite
 refine wpAny_onRaise (wpAny_unbindName_local hkk hn hv hcls fun h' u' hn' hs=>h _ ?_)
 obtain ⟨oL,_,_,hoL,_⟩:=id hn
 have cne:=I1.cne
 refine ⟨I1.ok,I1.os,I1.bare,⟨fun b o e n hb hx=>?_,fun b o e n hb hx=>?_,I1.base.free,fun b o e hx=>?_,I1.base.tups,I1.base.frzs,I1.base.tbls⟩,⟨_,hn',fun j y v' e1 e2 e3=>?_⟩,fun y c e=>?_,I1.free,I1.b2,fun p hp=>?_,fun b ob e=>?_,by simpa using I.len⟩
 ·exact (hs.2 b (Nat.ne_of_lt (Nat.lt_of_lt_of_le (Heap.lt_size e) I1.ok.above))).trans (I1.base.keep b o e n hb hx)
 ·
  obtain ⟨sl,e1⟩:=I1.base.slot b o e n hb hx
  exact ⟨sl,(hs.2 b (Nat.ne_of_lt (Nat.lt_of_lt_of_le (Heap.lt_size e) I1.ok.above))).trans e1⟩
 ·
  obtain ⟨o',e1⟩:=I1.base.there b o e hx
  exact ⟨o',(hs.2 b (Nat.ne_of_lt (Nat.lt_of_lt_of_le (Heap.lt_size e) I1.ok.above))).trans e1⟩
 ·
  by_cases hj:j=i
  ·
   subst hj
   rw [List.getElem?_set_self hiσ] at e2
   cases e2
  ·
   rw [List.getElem?_set_ne (Ne.symm hj)] at e2
   obtain ⟨u3,r3,q⟩:=hl j y v' e1 (by rw [List.getElem?_set_ne (Ne.symm hj)];exact e2) e3
   refine ⟨u3,r3,?_⟩
   rcases q with ⟨k,e⟩|⟨k,c,e,z⟩
   ·
    refine .inl ⟨k,?_⟩
    have:y≠x:=fun e=>hj (eo hN e1 (e▸hi))
    simp [this,e]
   ·exact .inr ⟨k,c,e,z.sameBut hs (cne y c e)⟩
 ·
  obtain ⟨w',z⟩:=I1.cell y c e
  exact ⟨w',z.sameBut hs (cne y c e)⟩
 ·
  obtain ⟨e,n,ne,nf,d⟩:=I1.pin p hp
  exact ⟨(hs.2 p.1 ne).trans e,n,ne,nf,d⟩
 ·
  refine (I1.hok b ob e).stay (fun c w' hc q=>(hs.2 c ?_).trans q) (fun _ q=>q) fun _ _ q=>q
  rintro rfl
  rcases hc with z|z
  ·subst z;rw [I1.free] at e;cases e
  ·rw [I1.free] at z;cases z
end
noncomputable abbrev TH:=Ends→St→Value→Option Addr→Hp→Prop
def PH (X:Cx) (hs:List ExceptHandler) (t:TH):Prop:= ∀(pins:List (Addr×Obj)) (s:Shared) (σ:St) (H:Hp) (D:Ends) (ea:Addr) (cls:Value) (dx:Option Addr) (T:Addr),
 Inv X pins σ (upd H ea (.ext (cK ea cls dx))) s→lA s.heap ea cls dx (some T)→H ea=none→t D σ cls dx H→wpAny (model X.prog X.w) X.A (handleBy (.ref ea) X.env hs) (SP X pins D) X.xe s
noncomputable def Ends.un (D:Ends) (i:Nat):Ends:={nx:=fun σ H=>D.nx (σ.set i none) H,rt:=D.rt,bk:=fun σ H=>D.bk (σ.set i none) H,ct:=fun σ H=>D.ct (σ.set i none) H}
def rJ:TH:=fun _ _ _ _ _=>False
def qZ (K:PySem.W.Frag) (C:Addr) (i:Nat) (th:TS) (tr:TH):TH:=fun D σ cls dx H=>qA (isx K cls C) (∀ea,H ea=none→th (D.un i) (σ.set i (some (.ref ea))) (upd H ea (.ext (cK ea cls dx)))) (tr D σ cls dx H)
def pW (tb:St→XK→TS) (th:TH):TS:=fun D σ H=>tb σ (fun cls dx H'=>th D σ cls dx H') D σ H
section
variable {X:Cx}
theorem oB:PH X [] rJ:=fun _ _ _ _ _ _ _ _ _ _ _ _ h=>h.elim
theorem mv {K:PySem.W.Frag} {x n:Str} {C:Addr} {i:Nat} {np pos:Pos} {b₀:Stmt} {body:List Stmt} {rest:List ExceptHandler} {th:TS} {tr:TH} (hK:X.K=K) (m:gD X.K X.mg x C) (hg:Gl X x) (hN:X.N.Nodup) (hi:X.N[i]?=some n) (hk:X.env.scope.names.lookup n=some .local)
  (hs: ∀e,eI (X.hand e) (b₀::body) th) (hr:PH X rest tr) (hdb:(x == ("__debug__" : Str))=false:=by decide):PH X (.ExceptHandler (some (.Name x np)) (some n) (b₀::body) pos::rest) (qZ K C i th tr):=by
 subst hK
 intro pins s σ H D ea cls dx T I hx hH h
 have ok:=I.ok
 have Ih:Inv (X.hand (.ref ea)) pins σ (upd H ea (.ext (cK ea cls dx))) s:=I.hand
 obtain ⟨oe,vs,he,hc,_⟩:=id hx
 refine wpAny_handleBy_cons (codeAny_handlers_test (dz (X:=X.hand (.ref ea)) Ih hg m.qP ?_ hdb)) (by intro q;cases q)
 unfold qZ at h
 cases hb:isx X.K cls C with
 |none=>rw [hb] at h;exact h.elim
 |some b=>
  rw [hb] at h
  refine xmatch I.dh he m (by rw [hc];exact hb) ?_
  cases b with
  |false=>exact hr pins s σ H D ea cls dx T I hx hH h
  |true=>
   refine codeAny_handlers_suite_as (kX hx (cu (X:=X.hand (.ref ea)) (v:= .ref ea) Ih hN hi (.inl hk) rfl (fun s1 I1=>?_) (.inr hk)))
   refine wpAny_mono (hs (.ref ea) pins s1 _ _ _ I1 (h ea hH)) (fun f s2 q=>?_) fun _ _ z=>z.elim
   cases f with
   |next=>obtain ⟨σ',H',I',q⟩:=q;exact c3 (I'.unhand ok) hN hi hk fun s' I2=>⟨_,H',I2,q⟩
   |brk=>obtain ⟨σ',H',I',q⟩:=q;exact c3 (I'.unhand ok) hN hi hk fun s' I2=>⟨_,H',I2,q⟩
   |cont=>obtain ⟨σ',H',I',q⟩:=q;exact c3 (I'.unhand ok) hN hi hk fun s' I2=>⟨_,H',I2,q⟩
   |ret u=>obtain ⟨v,σ',H',I',r,q⟩:=q;exact c3 (I'.unhand ok) hN hi hk fun s' I2=>⟨v,_,H',I2,r,q⟩
theorem oy {body:List Stmt} {h₀:ExceptHandler} {hs:List ExceptHandler} {pos:Pos} {tb:St→XK→TS} {th:TH} (hb: ∀pn σ E,eI (X.dH pn σ E) body (tb σ E)) (hh:PH X (h₀::hs) th)
  (hst:X.stack=X.env::X.outer:=by rfl) (hf:X.env.frame=some X.env.locals:=by rfl):PS X (.Try body (h₀::hs) [] [] pos) (pW tb th):=by
 intro pins s σ H D I h
 refine wpAny_Try_except (wpAny_mono (hb pins σ _ [] s σ H D I.dH h) (fun f s1 q=>?_) fun e s1 q=>?_)
 ·
  have q':=q.untry
  cases f with
  |next=>exact wpAny_execs_nil q'
  |brk=>exact q'
  |cont=>exact q'
  |ret u=>exact q'
 ·
  obtain ⟨ea,cls,dx,tb,H',rfl,F,hE⟩:=q
  have Ok:=F.inv.ok
  have fr:X.A.frames=some (X.env::X.outer):=by rw [←hst];exact Ok.frames
  have fl:s1.heap.FunFrames X.base (X.env::X.outer):=by rw [←hst];exact F.inv.stack
  refine kH fr fl hf F.ex fun h' hx hk=>?_
  rw [←hst] at hk
  exact hh pins _ σ H' D ea cls dx _ (F.land hk hx) hx F.nH hE
end
structure cZ (K:PySem.W.Frag) (C:Addr):Prop where
 ga:PySem.W.findIn K (.ref C) "__getattribute__" = some (some (.builtin "BaseException.__getattribute__"))
 gh:PySem.W.findIn K (.ref C) "__getattr__" = some none
 bx:PySem.W.mroIn K C (.type "BaseException")=some true
 ob:PySem.W.mroIn K C (.type "object")=some true
 hd:PySem.W.hasDictIn K C=true
 kc:PySem.W.findIn K (.ref C) "__class__" = some (some (.builtin "object.__class__"))
 kg:PySem.W.specialIn K (.builtin "object.__class__") "__get__" = some (some (.builtin "getset_descriptor.__get__"))
 kt:PySem.W.takesIn K (.builtin "object.__class__")=some true
section
variable {prog:Program} {w:World} {A:Around} {s:Shared} {K:PySem.W.Frag} {x C:Addr} {ox:Obj} {od:Option Obj} {name:Str}
theorem iM {E:Value→Shared→Prop} {tk:Tok} {fill expr:Bool} {Q:Value→Shared→Prop} (X:K.In s.heap) (I:PySem.W.InstAt s.heap x ox C od) (g:cZ K C)
  (h: ∀A',wpAny (model prog w) A' (Builtin.«object.__getattribute__» ⟨[.ref x,.str name tk],[]⟩) (fun fin s'=>match fin with | .done (.ret v)=>wpAny (model prog w) A (handedOut v) Q E s'|_=>False) (fun _ _=>False) s):
  wpAny (model prog w) A (getAttrBy (.ref x) (.str name tk) fill expr) Q E s:=by
 have L0:=I.type (M:=model prog w)
 have L1:=PySem.W.looks_findIn (M:=model prog w) X g.ga
 have L2:=PySem.W.looks_findIn (M:=model prog w) X g.gh
 have FX:=PySem.F.excAttr_ValueError
 have sub:PySem.W.Looks (model prog w) s.heap (isInstance (.ref x) (.type "BaseException")) true:=I.type.andThen (PySem.W.looks_mroIn X g.bx)
 have hx0:(expr&&onTheHeap (Value.builtin "BaseException.__getattribute__"))=false:=by cases expr<;>rfl
 have qA:(Value.builtin "BaseException.__getattribute__" == Value.builtin "object.__getattribute__")=false:=by decide+kernel
 unfold getAttrBy
 refine wpAny_holding (wpAny_bind (L0.here (wpAny_bind (L1.here ?_))))
 dsimp only
 rw [if_neg (by rw [qA];simp)]
 unfold getAttrByItsOwn hookBefore
 rw [if_pos (show onTheHeap (Value.ref C)=true from rfl)]
 refine wpAny_bind (L2.here ?_)
 refine wpAny_bind (wpAny_attempt (wpAny_holding ?_))
 unfold callGetattribute
 rw [hx0,if_neg (by decide)]
 unfold boundAndCalled
 rw [FX.ga.bind (.ref x)]
 refine wpAny_bind (wpAny_pure ?_)
 refine wpAny_call (codeAny_call_builtin FX.ga.plain PySem.F.entry_bexc_ga ?_)
 refine @PySem.W.check_slot (model prog w) _ _ s "BaseException.__getattribute__" "BaseException" "__getattribute__" (.ref x) [.str name tk] [] _ (by decide+kernel) (by decide+kernel) sub (PySem.F.args_bexc_ga (.ref x) (.str name tk)) ?_
 refine wpAny_mono (h _) (fun fin s' z=>?_) fun _ _ z=>z.elim
 rcases fin with (_|_|_|_)|_<;>first|exact z|exact z.elim
theorem hU {E:Value→Shared→Prop} {expr:Bool} {v:Value} {Q:Value→Shared→Prop} (X:K.In s.heap) (I:PySem.W.InstAt s.heap x ox C od) (g:cZ K C)
  (hf:PySem.W.findObj K C od name=some (.value v)) (hh:PySem.W.handedIn v=true) (h:Q v {s with toks:=s.toks+1}):wpAny (model prog w) A (getAttr (.ref x) name expr) Q E s:=by
 obtain ⟨hp,gs,d,t,os⟩:=s
 unfold getAttr
 refine wpAny_bind (wpAny_mkText (iM (s:=⟨hp,gs,d,t+1,os⟩) X I g fun A'=>?_))
 have L0:=I.type (M:=model prog w)
 have L1:=PySem.W.looks_find (M:=model prog w) X I hf
 unfold Builtin.«object.__getattribute__»
 refine wpAny_bind (wpAny_pure (wpAny_bind (wpAny_pure (wpAny_bind (L0.at (wpAny_bind (L1.at ?_)))))))
 refine wpAny_pure ?_
 show wpAny _ _ (handedOut v) _ _ _
 rw [PySem.W.handedOut_of hh];exact wpAny_pure h
theorem hV {E:Value→Shared→Prop} {Q:Option Value→Shared→Prop} (X:K.In s.heap) (I:PySem.W.InstAt s.heap x ox C od) (g:cZ K C) (h:Q (some (.ref C)) {s with toks:=s.toks+1}):
  wpAny (model prog w) A (getAttr? (.ref x) "__class__") Q E s:=by
 have hf:PySem.W.findObj K C od "__class__" = some (.bind (.builtin "getset_descriptor.__get__") (.builtin "object.__class__")):=by
  obtain ⟨cd,hc,_⟩:=PySem.W.any_some g.hd
  unfold PySem.W.findObj
  rw [hc,Option.bind_some,g.kc,Option.bind_some]
  simp [g.kg,g.kt]
 obtain ⟨hp,gs,d,t,os⟩:=s
 unfold getAttr? getAttrBy?
 refine wpAny_bind (wpAny_mkText (wpAny_bind (wpAny_attempt (iM (s:=⟨hp,gs,d,t+1,os⟩) X I g fun A'=>?_))))
 have L0:=I.type (M:=model prog w)
 have L1:=PySem.W.looks_find (M:=model prog w) X I hf
 unfold Builtin.«object.__getattribute__»
 refine wpAny_bind (wpAny_pure (wpAny_bind (wpAny_pure (wpAny_bind (L0.at (wpAny_bind (L1.at ?_)))))))
 refine wpAny_bind (wpAny_holding (wpAny_call (PySem.W.class_get (s:=⟨hp,gs,d,t+1,os⟩) (ox:=ox) (od:=od) X I g.ob ?_)))
 exact wpAny_pure (PySem.W.handed_on rfl (wpAny_pure h))
end
theorem kL {K:PySem.W.Frag} {x D:Addr} (g:cZ K D):PySem.W.KitX K (.ref x) (.ref D) (fun h=> ∃ox od,PySem.W.InstAt h x ox D od) where
 ty:=fun _ _ _ ⟨_,_,I⟩=>I.type
 it:=fun _ _ X _=>by
  obtain ⟨cdD,hcD,_⟩:=PySem.W.any_some g.hd
  unfold PySem.W.clsIn at hcD
  split at hcD
  ·
   rename_i c' d' cd' sl' ho
   intro A' Q' E' s' k q
   unfold isType loadHead
   exact wpAny_bind (wpAny_loadPart (k _ _ (X _ _ ho)) (wpAny_pure q))
  ·cases hcD
 ne:=fun h tp dd its n sl X htp=>by
  obtain ⟨cdD,hcD,_⟩:=PySem.W.any_some g.hd
  refine Bool.eq_false_iff.mpr fun q=>?_
  have e:D=tp:=Value.ref.inj (beq_iff_eq.mp q)
  subst e
  unfold PySem.W.clsIn at hcD
  split at hcD
  ·
   rename_i c' d' cd' sl' ho
   have z:=(X _ _ ho).symm.trans htp
   cases z
  ·cases hcD
 ca:=fun X I k=>by obtain ⟨ox,od,I⟩:=I;exact hV X I g k
theorem iN {a:Addr} {c c':Value} {d d':Option Addr} (e:cK a c d=cK a c' d'):c=c'∧d=d':=by
 have h1:cK a c d {objs:=Array.replicate (a+1) ⟨c,d,.fields #[],#[]⟩}:=⟨⟨c,d,.fields #[],#[]⟩,#[],by unfold Heap.get?;simp,rfl,rfl,rfl⟩
 rw [e] at h1
 obtain ⟨oe,vs,e1,e2,e3,_⟩:=h1
 have e0:Heap.get? {objs:=Array.replicate (a+1) ⟨c,d,.fields #[],#[]⟩} a=some ⟨c,d,.fields #[],#[]⟩:=by unfold Heap.get?;simp
 rw [e0] at e1
 cases e1
 exact ⟨e2,e3⟩
theorem pA {a:Addr} {c:Value} {d:Addr} {N:Addr→Prop}:(∃dx,some (HO.ext (cK a c (some d)))=some (HO.ext (cK a c (some dx)))∧N dx)=N d:=by
 apply propext;constructor
 ·
  rintro ⟨dx,e,h⟩
  have e1:=Option.some.inj e
  injection e1 with e2
  obtain ⟨_,e3⟩:=iN e2
  cases e3
  exact h
 ·exact fun h=>⟨d,rfl,h⟩
theorem pB {a:Addr} {C:Addr} {d:Option Addr} {N:Addr→Option Addr→Prop}:(∃D dx,some (HO.ext (cK a (.ref C) d))=some (HO.ext (cK a (.ref D) dx))∧N D dx)=N C d:=by
 apply propext;constructor
 ·
  rintro ⟨D,dx,e,h⟩
  have e1:=Option.some.inj e
  injection e1 with e2
  obtain ⟨e3,e4⟩:=iN e2
  cases e3;cases e4
  exact h
 ·exact fun h=>⟨C,d,rfl,h⟩
theorem qE {l:List (Str×V)} {N:List (Str×V)→Prop}:(∃fs,some (HO.xd l)=some (HO.xd fs)∧N fs)=N l:=by
 apply propext;constructor
 ·rintro ⟨fs,e,h⟩;cases e;exact h
 ·exact fun h=>⟨l,rfl,h⟩
def kd (C:Addr) (f:Str) (x:V) (H:Hp) (Q:VK):Prop:= ∃a,x = .ref a∧∃dx,H a=some (.ext (cK a (.ref C) (some dx)))∧∃fs,H dx=some (.xd fs)∧∃v,fs.lookup f=some v∧Q v H
def p7 (C:Addr) (f:Str) (ta:TE):TE:=fun σ H Q=>ta σ H fun x H1=>kd C f x H1 Q
theorem jl {C a:Addr} {f:Str} {H:Hp} {Q:VK}:kd C f (.ref a) H Q= ∃dx,H a=some (.ext (cK a (.ref C) (some dx)))∧∃fs,H dx=some (.xd fs)∧∃v,fs.lookup f=some v∧Q v H:=by
 apply propext;unfold kd;constructor
 ·rintro ⟨b,e,h⟩;cases e;exact h
 ·exact fun h=>⟨a,rfl,h⟩
def hR (o:Option Bool) (N:Bool→Prop):Prop:=match o with
 |some b=>N b
 |none=>False
theorem jz {b:Bool} {N:Bool→Prop}:hR (some b) N=N b:=rfl
def fg (H:Hp):Option Addr→Prop
 |none=>True
 |some d=> ∃fs,H d=some (.xd fs)
theorem nM {H:Hp}:fg H none=True:=rfl
theorem nL {H:Hp} {d:Addr}:fg H (some d)= ∃fs,H d=some (.xd fs):=rfl
theorem pw {l:List (Str×V)}:(∃fs,some (HO.xd l)=some (HO.xd fs))=True:=eq_true ⟨l,rfl⟩
def iC (K:PySem.W.Frag):List V→Hp→VK→Prop:=fun xs H Q=>match xs with
 | [.ref p,.ref C]=> ∃D dx,H p=some (.ext (cK p (.ref D) dx))∧cZ K D∧fg H dx∧hR (PySem.W.kitOne K (.ref D) (.ref C)) fun b=>Q (.bl b) H
 | [.ref p,.ty n]=> ∃D dx,H p=some (.ext (cK p (.ref D) dx))∧cZ K D∧fg H dx∧hR (PySem.W.kitOne K (.ref D) (.type n)) fun b=>Q (.bl b) H
 |_=>False
theorem jk {K:PySem.W.Frag} {p C:Addr} {H:Hp} {Q:VK}:iC K [.ref p,.ref C] H Q= ∃D dx,H p=some (.ext (cK p (.ref D) dx))∧cZ K D∧fg H dx∧hR (PySem.W.kitOne K (.ref D) (.ref C)) fun b=>Q (.bl b) H:=rfl
theorem j9 {K:PySem.W.Frag} {p:Addr} {n:String} {H:Hp} {Q:VK}:iC K [.ref p,.ty n] H Q= ∃D dx,H p=some (.ext (cK p (.ref D) dx))∧cZ K D∧fg H dx∧hR (PySem.W.kitOne K (.ref D) (.type n)) fun b=>Q (.bl b) H:=rfl
section
variable {X:Cx} {e:Expr} {f x:Str} {C:Addr} {ta:TE} {pos:Pos}
theorem Inv.inst {pins:List (Addr×Obj)} {σ:St} {H:Hp} {s:Shared} {p D:Addr} {dx:Option Addr} (I:Inv X pins σ H s) (h:H p=some (.ext (cK p (.ref D) dx))) (hd: ∀d,dx=some d→∃o,s.heap.get? d=some o):
  ∃ox od,PySem.W.InstAt s.heap p ox D od∧∀d,dx=some d→s.heap.get? d=od:=by
 obtain ⟨⟨oe,vs,he,hc,hdx,hdt⟩,_⟩:=(show bf X.prog X.w H s.heap p (.ext (cK p (.ref D) dx)) from I.hok p _ h)
 cases dx with
 |none=>exact ⟨oe,none,⟨he,hc,by unfold PySem.W.notCls;rw [hdt],by rw [hdx];trivial⟩,fun d z=>by cases z⟩
 |some d=>
  obtain ⟨o,ho⟩:=hd d rfl
  exact ⟨oe,some o,⟨he,hc,by unfold PySem.W.notCls;rw [hdt],by rw [hdx];exact ho⟩,fun d' z=>by cases z;exact ho⟩
theorem e_ (K:PySem.W.Frag) (hK:X.K=K):bK X (.builtin "isinstance") (iC K):=by
 subst hK
 intro pins s σ H xs us Q I rs q
 unfold iC at q
 have key: ∀{p D:Addr} {dx:Option Addr} {c:Value} {b:Bool},H p=some (.ext (cK p (.ref D) dx))→cZ X.K D→fg H dx→PySem.W.kitOne X.K (.ref D) c=some b→Q (.bl b) H→wpAny (model X.prog X.w) X.A (call (.builtin "isinstance") [.ref p,c]) (EP X pins σ Q) X.xe s:=fun {p D dx c b} hp g ok e h=>by
  obtain ⟨ox,od,J,_⟩:=I.inst hp (fun d z=>by
   subst z
   obtain ⟨fs,ed⟩:=ok
   exact (I.hok d _ ed).there)
  exact PySem.W.kia_one (kL g) I.dh ⟨ox,od,J⟩ e (fun z=>nomatch z) fun tk=>⟨.bl b,H,I.tok tk,rfl,h⟩
 split at q
 ·
  rename_i p C
  obtain ⟨u,c,rfl,ru,rc⟩:=vals2 rs
  obtain rfl:u=Value.ref p:=ru
  obtain rfl:c=Value.ref C:=rc
  obtain ⟨D,dx,hp,g,ok,q⟩:=q
  cases e:PySem.W.kitOne X.K (.ref D) (.ref C) with
  |none=>rw [e] at q;exact q.elim
  |some b=>rw [e] at q;exact key hp g ok e q
 ·
  rename_i p n
  obtain ⟨u,c,rfl,ru,rc⟩:=vals2 rs
  obtain rfl:u=Value.ref p:=ru
  obtain rfl:c=Value.type n:=rc
  obtain ⟨D,dx,hp,g,ok,q⟩:=q
  cases e:PySem.W.kitOne X.K (.ref D) (.type n) with
  |none=>rw [e] at q;exact q.elim
  |some b=>rw [e] at q;exact key hp g ok e q
 ·exact q.elim
theorem g8 (m:gD X.K X.mg x C) (hg:Gl X x) (hd:(x == ("__debug__" : Str))=false:=by decide):PE X (.Name x pos) (tC (.ref C)):=iG hg m.qP rfl hd
end
section
variable {X:Cx} {CX:dF} {k n:Nat} {C R:Addr} {ps:List Str} {sp:Sp} {E:XK} {x m:Str} {p pos apos:Pos} {e o:Expr} {es:List Expr} {ta:TE} {t:TA} {st:Stmt} {ts:TS}
theorem PS.nox (h:PS X.nox st ts):PS X st ts:=fun pins s σ H D I hw=>
 wpAny_mono (h pins s σ H D (I.wish _) hw) (fun _ _ q=>q.unwish) fun _ _ z=>False.elim z
def qK (K:PySem.W.Frag) (mg:Str→Option Value) (x:Str) (C R:Addr):Prop:= ∃ini,gE K mg x C R ini
theorem ee {CX:dF} [Quiet CX] (c:qK X.K X.mg x C R) (G:m6 X.prog X.w X.K X.mg X.base CX C "__init__" k ps sp) (kp:PySem.W.keepIn X.K (.ref C)=true) (hr:bL n X.A) (hk:k+1≤n) (hz:Rz X E) (hc:X.calm=true) (hex:X.ex= []) (hg:Gl X x) (ha:PA X (e::es) t)
  (hdb:(x == ("__debug__" : Str))=false:=by decide) (h:(e::es).any isStar=false:=by rfl) (hlen: ∀us:List Value,us.length+1=ps.length→us.length≤sizeLine:=by intro us h;simp at h;rw [sizeLine_eq];omega):
  PS X (.Raise (some (.Call (.Name x p) (e::es) [] apos)) none pos) (fm C sp E t):=by
 obtain ⟨ini,c⟩:=c
 rw [List.any_cons,Bool.or_eq_false_iff] at h
 exact jo c G kp (hr.mono hk) hz hc hex hg ha hdb (bV h.1) (d4 h.2) hlen
theorem ku {value:Expr} {f:Str} {pos':Pos} {tv:TE} (c:qK X.K X.mg x C R) (m:ie X.K C f) (ha:PE X o ta) (hv:PE X value tv) (hs:du value=false:=by rfl):PS X (.Assign [.Attribute o f pos'] value pos) (jY C ta tv f):=by
 obtain ⟨ini,c⟩:=c
 exact mr c m ha hv hs
end
theorem lF {K:PySem.W.Frag} {C:Addr} (ga:PySem.W.findIn K (.ref C) "__getattribute__" = some (some (.builtin "BaseException.__getattribute__"))) (gh:PySem.W.findIn K (.ref C) "__getattr__" = some none) (bx:PySem.W.mroIn K C (.type "BaseException")=some true)
  (ob:PySem.W.mroIn K C (.type "object")=some true) (hd:PySem.W.hasDictIn K C=true) (kc:PySem.W.findIn K (.ref C) "__class__" = some (some (.builtin "object.__class__"))) (kg:PySem.W.specialIn K (.builtin "object.__class__") "__get__" = some (some (.builtin "getset_descriptor.__get__")))
  (kt:PySem.W.takesIn K (.builtin "object.__class__")=some true):cZ K C:=⟨ga,gh,bx,ob,hd,kc,kg,kt⟩
theorem lE {K:PySem.W.Frag} {h:Heap} {mg:Str→Option Value} {x:Str} {C:Addr} (X:K.In h) (G:h.Ns mainGlobals mg) (a:PySem.W.nsIn K mainGlobals x=some (some (.ref C))) (t:PySem.W.typeIn K (.ref C)=some (.type "type")) (b:PySem.W.mroIn K C (.type "BaseException")=some true):gD K mg x C:=
 ⟨PySem.W.mg_of X G a,t,b⟩
def Dn (K:PySem.W.Frag) (H:Hp):Nat→V→Dt→Prop
 |0,x,d=>(x = .non∧d = .non)∨(∃i,x = .int i∧d = .int i)∨(∃z,x = .str z∧d = .str z)∨(∃b,x = .bl b∧d = .int (if b then 1 else 0))
 |n+1,x,d=>Dn K H n x d∨(∃a xs ds,x = .ref a∧d = .l ds∧bP K H a xs∧Paired (Dn K H n) xs ds)∨(∃a xs ds,x = .ref a∧d = .t ds∧c2 K H a xs∧Paired (Dn K H n) xs ds)
section
variable {X:Cx} {pins:List (Addr×Obj)} {σ:St} {H:Hp} {s:Shared}
open Classical in
theorem dC {i j:Int}:decide (Dt.int i=Dt.int j)=(i == j):=by
 rw [Bool.eq_iff_iff,decide_eq_true_eq,beq_iff_eq]
 exact ⟨fun q=>Dt.int.inj q,fun q=>by rw [q]⟩
theorem qJ (a b:Bool):((if a then (1:Int) else 0) == (if b then 1 else 0))=(a == b):=by cases a<;>cases b<;>rfl
open Classical in
theorem mU {A:Around} {x y:V} {u v:Value} {d e:Dt} (rx:RelV x u) (ry:RelV y v) (hx:Dn X.K H 0 x d) (hy:Dn X.K H 0 y e):SeqAt.EqAt A s u v (decide (d=e)):=by
 rcases hx with ⟨rfl,rfl⟩|⟨i,rfl,rfl⟩|⟨i,rfl,rfl⟩|⟨i,rfl,rfl⟩<;>rcases hy with ⟨rfl,rfl⟩|⟨j,rfl,rfl⟩|⟨j,rfl,rfl⟩|⟨j,rfl,rfl⟩
 ·cases rx;cases ry;rw [decide_eq_true rfl];exact SeqAt.EqAt.same _
 ·cases rx;obtain ⟨t,rfl⟩:=ry;rw [decide_eq_false (fun z=>nomatch z)];exact SeqAt.EqAt.none_int _ _
 ·cases rx;obtain ⟨t,rfl⟩:=ry;rw [decide_eq_false (fun z=>nomatch z)];exact SeqAt.EqAt.none_str _ _
 ·cases rx;cases ry;rw [decide_eq_false (fun z=>nomatch z)];exact SeqAt.EqAt.none_bool _
 ·obtain ⟨t,rfl⟩:=rx;cases ry;rw [decide_eq_false (fun z=>nomatch z)];exact SeqAt.EqAt.int_none _ _
 ·obtain ⟨t,rfl⟩:=rx;obtain ⟨t',rfl⟩:=ry;rw [dC];exact SeqAt.EqAt.int_int _ _ _ _
 ·obtain ⟨t,rfl⟩:=rx;obtain ⟨t',rfl⟩:=ry;rw [decide_eq_false (fun z=>nomatch z)];exact SeqAt.EqAt.int_str _ _ _ _
 ·obtain ⟨t,rfl⟩:=rx;cases ry;rw [dC];exact SeqAt.EqAt.int_bool _ _ _
 ·obtain ⟨t,rfl⟩:=rx;cases ry;rw [decide_eq_false (fun z=>nomatch z)];exact SeqAt.EqAt.str_none _ _
 ·obtain ⟨t,rfl⟩:=rx;obtain ⟨t',rfl⟩:=ry;rw [decide_eq_false (fun z=>nomatch z)];exact SeqAt.EqAt.str_int _ _ _ _
 ·
  obtain ⟨t,rfl⟩:=rx;obtain ⟨t',rfl⟩:=ry
  have e:decide (Dt.str i=Dt.str j)=(i == j):=by
   rw [Bool.eq_iff_iff,decide_eq_true_eq,beq_iff_eq]
   exact ⟨fun q=>Dt.str.inj q,fun q=>by rw [q]⟩
  rw [e];exact SeqAt.EqAt.str_str _ _ _ _
 ·obtain ⟨t,rfl⟩:=rx;cases ry;rw [decide_eq_false (fun z=>nomatch z)];exact SeqAt.EqAt.str_bool _ _ _
 ·cases rx;cases ry;rw [decide_eq_false (fun z=>nomatch z)];exact SeqAt.EqAt.bool_none _
 ·cases rx;obtain ⟨t,rfl⟩:=ry;rw [dC];exact SeqAt.EqAt.bool_int _ _ _
 ·cases rx;obtain ⟨t,rfl⟩:=ry;rw [decide_eq_false (fun z=>nomatch z)];exact SeqAt.EqAt.bool_str _ _ _
 ·cases rx;cases ry;rw [dC,qJ];exact SeqAt.EqAt.bool_bool _ _
theorem Dn.cases {K:PySem.W.Frag} {H:Hp}: ∀{n:Nat} {x:V} {d:Dt},Dn K H n x d→Dn K H 0 x d∨(∃m,m<n∧∃a xs ds,x = .ref a∧d = .l ds∧bP K H a xs∧Paired (Dn K H m) xs ds)∨(∃m,m<n∧∃a xs ds,x = .ref a∧d = .t ds∧c2 K H a xs∧Paired (Dn K H m) xs ds)
 |0,_,_,h=> .inl h
 |n+1,_,_,h=>by
  rcases h with h|h|h
  ·
   rcases Dn.cases h with q|⟨m,hm,q⟩|⟨m,hm,q⟩
   ·exact .inl q
   ·exact .inr (.inl ⟨m,by omega,q⟩)
   ·exact .inr (.inr ⟨m,by omega,q⟩)
  ·exact .inr (.inl ⟨n,by omega,h⟩)
  ·exact .inr (.inr ⟨n,by omega,h⟩)
theorem Dn.up {K:PySem.W.Frag} {H:Hp} {n m:Nat} {x:V} {d:Dt} (h:Dn K H n x d) (hm:n≤m):Dn K H m x d:=by
  induction m with
  |zero=>
            have:n=0:=by omega
            subst this;exact h
  |
    succ m ih=>
    by_cases e:n=m+1
    · subst e;exact h
    · exact .inl (ih (by omega))
theorem pG (n:Nat): ∀{m:Nat} {x:V} {d e:Dt},Inv X pins σ H s→Dn X.K H n x d→Dn X.K H m x e→d=e:=by
 induction n using Nat.strongRecOn with
 |_ n ih=>
 intro m x d e I hx hy
 rcases hx.cases with hx|⟨m1,hm,a,xs,ds,rfl,rfl,ha,pa⟩|⟨m1,hm,a,xs,ds,rfl,rfl,ha,pa⟩
 ·
  rcases hy.cases with hy|⟨k,hk,b,ys,es,rfl,rfl,hb,pb⟩|⟨k,hk,b,ys,es,rfl,rfl,hb,pb⟩
  ·rcases hx with ⟨rfl,rfl⟩|⟨i,rfl,rfl⟩|⟨i,rfl,rfl⟩|⟨i,rfl,rfl⟩<;>rcases hy with ⟨z,rfl⟩|⟨j,z,rfl⟩|⟨j,z,rfl⟩|⟨j,z,rfl⟩<;>first|rfl|(cases z;rfl)|cases z
  ·rcases hx with ⟨z,_⟩|⟨i,z,_⟩|⟨i,z,_⟩|⟨i,z,_⟩<;>cases z
  ·rcases hx with ⟨z,_⟩|⟨i,z,_⟩|⟨i,z,_⟩|⟨i,z,_⟩<;>cases z
 ·
  rcases hy.cases with hy|⟨k,hk,b,ys,es,e1,rfl,hb,pb⟩|⟨k,hk,b,ys,es,e1,rfl,hb,pb⟩
  ·rcases hy with ⟨z,_⟩|⟨i,z,_⟩|⟨i,z,_⟩|⟨i,z,_⟩<;>cases z
  ·
   cases e1
   have:=I.gr ha hb
   subst this
   rw [dq pa pb fun x d e h1 h2=>ih m1 hm I h1 h2]
  ·
   cases e1
   exact (cT I ha hb).elim
 ·
  rcases hy.cases with hy|⟨k,hk,b,ys,es,e1,rfl,hb,pb⟩|⟨k,hk,b,ys,es,e1,rfl,hb,pb⟩
  ·rcases hy with ⟨z,_⟩|⟨i,z,_⟩|⟨i,z,_⟩|⟨i,z,_⟩<;>cases z
  ·
   cases e1
   exact (cT I hb ha).elim
  ·
   cases e1
   have:=I.eW ha hb
   subst this
   rw [dq pa pb fun x d e h1 h2=>ih m1 hm I h1 h2]
open Classical in
theorem dB {n:Nat} {A:Around} {xs ys:List V} {its its2:List Value} {ds es:List Dt} {m k:Nat} (r1:Vals xs its) (r2:Vals ys its2) (pa:Paired (Dn X.K H m) xs ds) (pb:Paired (Dn X.K H k) ys es)
  (ih: ∀x y u v d e,RelV x u→RelV y v→Dn X.K H m x d→Dn X.K H k y e→SeqAt.EqAt A s u v (decide (d=e))):
  ∀j (h1:j<its.toArray.size) (h2:j<its2.toArray.size),SeqAt.EqAt A s its.toArray[j] its2.toArray[j] (decide (ds[j]?=es[j]?)):=by
 intro j h1 h2
 have h1':j<its.length:=by simpa using h1
 have h2':j<its2.length:=by simpa using h2
 have l1:=r1.length
 have l2:=r2.length
 have x1:xs[j]?=some xs[j]:=by simp
 have y1:ys[j]?=some ys[j]:=by simp
 obtain ⟨d',hd',pd⟩:=Paired.get pa x1
 obtain ⟨e',he',pe⟩:=Paired.get pb y1
 obtain ⟨u',hu1,ru⟩:=r1.get x1
 obtain ⟨v',hv1,rv⟩:=r2.get y1
 have e1:its.toArray[j]=u':=by
  have:its[j]?=some its[j]:=by simp
  rw [hu1] at this
  simpa using (Option.some.inj this).symm
 have e2:its2.toArray[j]=v':=by
  have:its2[j]?=some its2[j]:=by simp
  rw [hv1] at this
  simpa using (Option.some.inj this).symm
 have e3:decide (ds[j]?=es[j]?)=decide (d'=e'):=by
  rw [hd',he',Bool.eq_iff_iff,decide_eq_true_eq,decide_eq_true_eq]
  exact ⟨fun q=>Option.some.inj q,fun q=>by rw [q]⟩
 rw [e1,e2,e3]
 exact ih _ _ _ _ _ _ ru rv pd pe
open Classical in
theorem k6 (n:Nat): ∀{A:Around} {x y:V} {u v:Value} {d e:Dt},Inv X pins σ H s→A.units+n<cLine→RelV x u→RelV y v→Dn X.K H n x d→Dn X.K H n y e→SeqAt.EqAt A s u v (decide (d=e))∧∀a b,x = .ref a→y = .ref b→SeqAt.RcAt A s (.ref a) (.ref b) (decide (d=e)):=by
 induction n using Nat.strongRecOn with
 |_ n ih=>
 intro A x y u v d e I hu rx ry hx hy
 have lift: ∀{a b:Addr},x = .ref a→y = .ref b→SeqAt.RcAt A s (.ref a) (.ref b) (decide (d=e))→SeqAt.EqAt A s (.ref a) (.ref b) (decide (d=e)):=fun {a b} ea eb q=>by
  by_cases hab:a=b
  ·
   subst hab
   subst ea
   subst eb
   rw [decide_eq_true (pG n I hx hy)]
   exact SeqAt.EqAt.same _
  ·exact SeqAt.EqAt.of_refs hab q
 have hu':A.units<cLine:=by omega
 rcases hx.cases with hx'|⟨m,hm,a,xs,ds,rfl,rfl,ha,pa⟩|⟨m,hm,a,xs,ds,rfl,rfl,ha,pa⟩
 ·
  rcases hy.cases with hy'|⟨k,hk,b,ys,es,rfl,rfl,hb,pb⟩|⟨k,hk,b,ys,es,rfl,rfl,hb,pb⟩
  ·
   refine ⟨mU rx ry hx' hy',fun a b e1 e2=>?_⟩
   subst e1
   rcases hx' with ⟨z,_⟩|⟨i,z,_⟩|⟨i,z,_⟩|⟨i,z,_⟩<;>cases z
  ·
   cases ry
   obtain ⟨its,_,p,_⟩:=I.list hb
   rcases hx' with ⟨rfl,rfl⟩|⟨i,rfl,rfl⟩|⟨i,rfl,rfl⟩|⟨i,rfl,rfl⟩
   ·cases rx;rw [decide_eq_false (fun z=>nomatch z)];exact ⟨SeqAt.EqAt.none_list p.isList hu',fun a b z=>nomatch z⟩
   ·obtain ⟨t,rfl⟩:=rx;rw [decide_eq_false (fun z=>nomatch z)];exact ⟨SeqAt.EqAt.int_list _ _ p.isList hu',fun a b z=>nomatch z⟩
   ·obtain ⟨t,rfl⟩:=rx;rw [decide_eq_false (fun z=>nomatch z)];exact ⟨SeqAt.EqAt.str_list _ _ p.isList hu',fun a b z=>nomatch z⟩
   ·cases rx;rw [decide_eq_false (fun z=>nomatch z)];exact ⟨SeqAt.EqAt.bool_list _ p.isList hu',fun a b z=>nomatch z⟩
  ·
   cases ry
   obtain ⟨its,_,p,_⟩:=I.tuple hb
   rcases hx' with ⟨rfl,rfl⟩|⟨i,rfl,rfl⟩|⟨i,rfl,rfl⟩|⟨i,rfl,rfl⟩
   ·cases rx;rw [decide_eq_false (fun z=>nomatch z)];exact ⟨SeqAt.EqAt.none_tuple p hu',fun a b z=>nomatch z⟩
   ·obtain ⟨t,rfl⟩:=rx;rw [decide_eq_false (fun z=>nomatch z)];exact ⟨SeqAt.EqAt.int_tuple _ _ p hu',fun a b z=>nomatch z⟩
   ·obtain ⟨t,rfl⟩:=rx;rw [decide_eq_false (fun z=>nomatch z)];exact ⟨SeqAt.EqAt.str_tuple _ _ p hu',fun a b z=>nomatch z⟩
   ·cases rx;rw [decide_eq_false (fun z=>nomatch z)];exact ⟨SeqAt.EqAt.bool_tuple _ p hu',fun a b z=>nomatch z⟩
 ·
  cases rx
  obtain ⟨its,r1,p,hz⟩:=I.list ha
  rcases hy.cases with hy'|⟨k,hk,b,ys,es,rfl,rfl,hb,pb⟩|⟨k,hk,b,ys,es,rfl,rfl,hb,pb⟩
  ·
   rcases hy' with ⟨rfl,rfl⟩|⟨i,rfl,rfl⟩|⟨i,rfl,rfl⟩|⟨i,rfl,rfl⟩
   ·cases ry;rw [decide_eq_false (fun z=>nomatch z)];exact ⟨SeqAt.EqAt.list_none p.isList hu',fun a b _ z=>nomatch z⟩
   ·obtain ⟨t,rfl⟩:=ry;rw [decide_eq_false (fun z=>nomatch z)];exact ⟨SeqAt.EqAt.list_int _ _ p.isList hu',fun a b _ z=>nomatch z⟩
   ·obtain ⟨t,rfl⟩:=ry;rw [decide_eq_false (fun z=>nomatch z)];exact ⟨SeqAt.EqAt.list_str _ _ p.isList hu',fun a b _ z=>nomatch z⟩
   ·cases ry;rw [decide_eq_false (fun z=>nomatch z)];exact ⟨SeqAt.EqAt.list_bool _ p.isList hu',fun a b _ z=>nomatch z⟩
  ·
   cases ry
   obtain ⟨its2,r2,p2,hz2⟩:=I.list hb
   have l1:=r1.length
   have l2:=r2.length
   have l3:=Paired.length pa
   have l4:=Paired.length pb
   have eqd:decide (Dt.l ds=Dt.l es)=decide (ds=es):=by
    rw [Bool.eq_iff_iff,decide_eq_true_eq,decide_eq_true_eq]
    exact ⟨fun q=>Dt.l.inj q,fun q=>by rw [q]⟩
   have rc:SeqAt.RcAt A s (.ref a) (.ref b) (decide (Dt.l ds=Dt.l es)):=by
    rw [eqd]
    by_cases hl:its.length=its2.length
    ·have key:=SeqAt.RcAt.lists (e:=fun j=>decide (ds[j]?=es[j]?)) p.isList p2.isList (by simpa using hl) hu' (dB (n:=n) r1 r2 pa pb fun x y u v d e rx ry h1 h2=>
      (ih (max m k) (by omega) (A:=A.in1) I (by show A.units+1+max m k<cLine;omega) rx ry (h1.up (Nat.le_max_left _ _)) (h2.up (Nat.le_max_right _ _))).1)
     rw [c8 (by rw [List.size_toArray];omega) (by omega)] at key
     exact key
    ·
     have hne:ds≠es:=fun q=>hl (by rw [q] at l3;omega)
     rw [decide_eq_false hne]
     exact SeqAt.RcAt.lists_lengths p.isList p2.isList (iv hl) hu'
   exact ⟨lift rfl rfl rc,fun a' b' e1 e2=>by cases e1;cases e2;exact rc⟩
  ·
   cases ry
   obtain ⟨its2,r2,p2,_⟩:=I.tuple hb
   rw [decide_eq_false (fun z=>nomatch z)]
   exact ⟨SeqAt.EqAt.list_tuple p.isList p2 hu',fun a' b' e1 e2=>by cases e1;cases e2;exact SeqAt.RcAt.list_tuple p.isList p2 hu'⟩
 ·
  cases rx
  obtain ⟨its,r1,p,hz⟩:=I.tuple ha
  rcases hy.cases with hy'|⟨k,hk,b,ys,es,rfl,rfl,hb,pb⟩|⟨k,hk,b,ys,es,rfl,rfl,hb,pb⟩
  ·
   rcases hy' with ⟨rfl,rfl⟩|⟨i,rfl,rfl⟩|⟨i,rfl,rfl⟩|⟨i,rfl,rfl⟩
   ·cases ry;rw [decide_eq_false (fun z=>nomatch z)];exact ⟨SeqAt.EqAt.tuple_none p hu',fun a b _ z=>nomatch z⟩
   ·obtain ⟨t,rfl⟩:=ry;rw [decide_eq_false (fun z=>nomatch z)];exact ⟨SeqAt.EqAt.tuple_int _ _ p hu',fun a b _ z=>nomatch z⟩
   ·obtain ⟨t,rfl⟩:=ry;rw [decide_eq_false (fun z=>nomatch z)];exact ⟨SeqAt.EqAt.tuple_str _ _ p hu',fun a b _ z=>nomatch z⟩
   ·cases ry;rw [decide_eq_false (fun z=>nomatch z)];exact ⟨SeqAt.EqAt.tuple_bool _ p hu',fun a b _ z=>nomatch z⟩
  ·
   cases ry
   obtain ⟨its2,r2,p2,_⟩:=I.list hb
   rw [decide_eq_false (fun z=>nomatch z)]
   exact ⟨SeqAt.EqAt.tuple_list p p2.isList hu',fun a' b' e1 e2=>by cases e1;cases e2;exact SeqAt.RcAt.tuple_list p p2.isList hu'⟩
  ·
   cases ry
   obtain ⟨its2,r2,p2,hz2⟩:=I.tuple hb
   have l1:=r1.length
   have l2:=r2.length
   have l3:=Paired.length pa
   have l4:=Paired.length pb
   have eqd:decide (Dt.t ds=Dt.t es)=decide (ds=es):=by
    rw [Bool.eq_iff_iff,decide_eq_true_eq,decide_eq_true_eq]
    exact ⟨fun q=>Dt.t.inj q,fun q=>by rw [q]⟩
   have rc:SeqAt.RcAt A s (.ref a) (.ref b) (decide (Dt.t ds=Dt.t es)):=by
    rw [eqd]
    have key:=SeqAt.RcAt.tuples (e:=fun j=>decide (ds[j]?=es[j]?)) p p2 hu' (dB (n:=n) r1 r2 pa pb fun x y u v d e rx ry h1 h2=>
      (ih (max m k) (by omega) (A:=A.in1) I (by show A.units+1+max m k<cLine;omega) rx ry (h1.up (Nat.le_max_left _ _)) (h2.up (Nat.le_max_right _ _))).1)
    by_cases hl:its.length=its2.length
    ·
     rw [show min its.toArray.size its2.toArray.size=ds.length by rw [List.size_toArray,List.size_toArray];omega,c8 rfl (by omega),show (its.toArray.size == its2.toArray.size)=true by rw [List.size_toArray,List.size_toArray,beq_iff_eq];exact hl,Bool.and_true] at key
     exact key
    ·
     have hne:ds≠es:=fun q=>hl (by rw [q] at l3;omega)
     rw [decide_eq_false hne]
     rw [show (its.toArray.size == its2.toArray.size)=false by rw [List.size_toArray,List.size_toArray,beq_eq_false_iff_ne];exact hl,Bool.and_false] at key
     exact key
   exact ⟨lift rfl rfl rc,fun a' b' e1 e2=>by cases e1;cases e2;exact rc⟩
end
def dU (K:PySem.W.Frag) (neg:Bool):R2:=fun x y H Q=>match x,y with
 | .ref a,.ref b=> ∃n d e,n≤60∧Dn K H n (.ref a) d∧Dn K H n (.ref b) e∧((d=e∧Q (.bl (!neg)) H)∨(d≠e∧Q (.bl neg) H))
 |x,y=>scal x y=true∧Q (.bl (if neg then !decide (x=y) else decide (x=y))) H
section
variable {X:Cx}
open Classical in
theorem oM (hu:X.A.units+64<cLine):cf X (compareOp .Eq) (dU X.K false):=by
 intro pins s σ H x y v u Q I rx ry h
 unfold dU at h
 split at h
 ·
  obtain ⟨n,d,e,hn,hd,he,q⟩:=h
  obtain ⟨_,rc⟩:=k6 n (A:=X.A) I (by omega) rx ry hd he
  cases rx
  cases ry
  have:=rc _ _ rfl rfl
  refine (this X.prog X.w _ _ ?_:wpAny (model X.prog X.w) X.A (richCompare .Eq _ _) (EP X pins σ Q) X.xe s)
  rcases q with ⟨c,q⟩|⟨c,q⟩
  ·rw [decide_eq_true c];exact ⟨.bl true,H,I,rfl,q⟩
  ·rw [decide_eq_false c];exact ⟨.bl false,H,I,rfl,q⟩
 ·exact qt pins s σ H _ _ v u Q I rx ry ⟨h.1,by simpa using h.2⟩
open Classical in
theorem oI (hu:X.A.units+64<cLine):cf X (compareOp .NotEq) (dU X.K true):=by
 intro pins s σ H x y v u Q I rx ry h
 unfold dU at h
 split at h
 ·
  rename_i a b
  obtain ⟨n,d,e,hn,hd,he,q⟩:=h
  cases rx
  cases ry
  have hu':X.A.units<cLine:=by omega
  have fin:SeqAt.RcNeAt X.A s (.ref a) (.ref b) (!decide (d=e))→wpAny (model X.prog X.w) X.A (compareOp .NotEq (.ref a) (.ref b)) (EP X pins σ Q) X.xe s:=fun rc=>by
   refine (rc X.prog X.w _ _ ?_:wpAny (model X.prog X.w) X.A (richCompare .NotEq _ _) (EP X pins σ Q) X.xe s)
   rcases q with ⟨c,q⟩|⟨c,q⟩
   ·rw [decide_eq_true c];exact ⟨.bl false,H,I,rfl,q⟩
   ·rw [decide_eq_false c];exact ⟨.bl true,H,I,rfl,q⟩
  apply fin
  clear fin q
  rcases hd.cases with hx'|⟨m,hm,a',xs,ds,e1,rfl,ha,pa⟩|⟨m,hm,a',xs,ds,e1,rfl,ha,pa⟩
  ·rcases hx' with ⟨z,_⟩|⟨i,z,_⟩|⟨i,z,_⟩|⟨i,z,_⟩<;>cases z
  ·
   cases e1
   obtain ⟨its,r1,p,hz⟩:=I.list ha
   rcases he.cases with hy'|⟨k,hk,b',ys,es,e2,rfl,hb,pb⟩|⟨k,hk,b',ys,es,e2,rfl,hb,pb⟩
   ·rcases hy' with ⟨z,_⟩|⟨i,z,_⟩|⟨i,z,_⟩|⟨i,z,_⟩<;>cases z
   ·
    cases e2
    obtain ⟨its2,r2,p2,hz2⟩:=I.list hb
    have l1:=r1.length
    have l2:=r2.length
    have l3:=Paired.length pa
    have l4:=Paired.length pb
    have eqd:decide (Dt.l ds=Dt.l es)=decide (ds=es):=by
     rw [Bool.eq_iff_iff,decide_eq_true_eq,decide_eq_true_eq]
     exact ⟨fun q=>Dt.l.inj q,fun q=>by rw [q]⟩
    rw [eqd]
    by_cases hl:its.length=its2.length
    ·have key:=SeqAt.RcNeAt.lists (e:=fun j=>decide (ds[j]?=es[j]?)) p.isList p2.isList (by simpa using hl) hu' (dB (n:=n) r1 r2 pa pb fun x y u v d e rx ry h1 h2=>
      (k6 (max m k) (A:=X.A.in1) I (by show X.A.units+1+max m k<cLine;omega) rx ry (h1.up (Nat.le_max_left _ _)) (h2.up (Nat.le_max_right _ _))).1)
     rw [c8 (by rw [List.size_toArray];omega) (by omega)] at key
     exact key
    ·
     have hne:ds≠es:=fun q=>hl (by rw [q] at l3;omega)
     rw [decide_eq_false hne]
     exact SeqAt.RcNeAt.lists_lengths p.isList p2.isList (iv hl) hu'
   ·
    cases e2
    obtain ⟨its2,r2,p2,_⟩:=I.tuple hb
    rw [decide_eq_false (fun z=>nomatch z)]
    exact SeqAt.RcNeAt.list_tuple p.isList p2 hu'
  ·
   cases e1
   obtain ⟨its,r1,p,hz⟩:=I.tuple ha
   rcases he.cases with hy'|⟨k,hk,b',ys,es,e2,rfl,hb,pb⟩|⟨k,hk,b',ys,es,e2,rfl,hb,pb⟩
   ·rcases hy' with ⟨z,_⟩|⟨i,z,_⟩|⟨i,z,_⟩|⟨i,z,_⟩<;>cases z
   ·
    cases e2
    obtain ⟨its2,r2,p2,_⟩:=I.list hb
    rw [decide_eq_false (fun z=>nomatch z)]
    exact SeqAt.RcNeAt.tuple_list p p2.isList hu'
   ·
    cases e2
    obtain ⟨its2,r2,p2,hz2⟩:=I.tuple hb
    have l1:=r1.length
    have l2:=r2.length
    have l3:=Paired.length pa
    have l4:=Paired.length pb
    have eqd:decide (Dt.t ds=Dt.t es)=decide (ds=es):=by
     rw [Bool.eq_iff_iff,decide_eq_true_eq,decide_eq_true_eq]
     exact ⟨fun q=>Dt.t.inj q,fun q=>by rw [q]⟩
    rw [eqd]
    have key:=SeqAt.RcNeAt.tuples (e:=fun j=>decide (ds[j]?=es[j]?)) p p2 hu' (dB (n:=n) r1 r2 pa pb fun x y u v d e rx ry h1 h2=>
      (k6 (max m k) (A:=X.A.in1) I (by show X.A.units+1+max m k<cLine;omega) rx ry (h1.up (Nat.le_max_left _ _)) (h2.up (Nat.le_max_right _ _))).1)
    by_cases hl:its.length=its2.length
    ·
     rw [show min its.toArray.size its2.toArray.size=ds.length by rw [List.size_toArray,List.size_toArray];omega,c8 rfl (by omega),show (its.toArray.size == its2.toArray.size)=true by rw [List.size_toArray,List.size_toArray,beq_iff_eq];exact hl,Bool.and_true] at key
     exact key
    ·
     have hne:ds≠es:=fun q=>hl (by rw [q] at l3;omega)
     rw [decide_eq_false hne]
     rw [show (its.toArray.size == its2.toArray.size)=false by rw [List.size_toArray,List.size_toArray,beq_eq_false_iff_ne];exact hl,Bool.and_false] at key
     exact key
 ·exact qr pins s σ H _ _ v u Q I rx ry ⟨h.1,by simpa using h.2⟩
end
section
variable {K:PySem.W.Frag} {H:Hp} {Q:VK}
theorem bo {X:Cx} (K:PySem.W.Frag) (h:X.K=K) (hu:X.A.units+64<cLine):cf X (compareOp .Eq) (dU K false):=h▸oM hu
theorem cD {X:Cx} (K:PySem.W.Frag) (h:X.K=K) (hu:X.A.units+64<cLine):cf X (compareOp .NotEq) (dU K true):=h▸oI hu
theorem kh {i j:Int}:dU K false (.int i) (.int j) H Q=Q (.bl (decide (i=j))) H:=by
 show (scal (.int i) (.int j)=true∧Q (.bl (if false=true then _ else decide (V.int i=V.int j))) H)=_
 rw [if_neg Bool.false_ne_true]
 exact fw
theorem j5 {i j:Int}:dU K true (.int i) (.int j) H Q=Q (.bl (!decide (i=j))) H:=by
 show (scal (.int i) (.int j)=true∧Q (.bl (if true=true then !decide (V.int i=V.int j) else _)) H)=_
 rw [if_pos rfl]
 exact fu
theorem kf {i j:Str}:dU K false (.str i) (.str j) H Q=Q (.bl (decide (i=j))) H:=by
 show (scal (.str i) (.str j)=true∧Q (.bl (if false=true then _ else decide (V.str i=V.str j))) H)=_
 rw [if_neg Bool.false_ne_true]
 exact fv
theorem j4 {i j:Str}:dU K true (.str i) (.str j) H Q=Q (.bl (!decide (i=j))) H:=by
 show (scal (.str i) (.str j)=true∧Q (.bl (if true=true then !decide (V.str i=V.str j) else _)) H)=_
 rw [if_pos rfl]
 exact ft
theorem mh {i j:Bool}:dU K false (.bl i) (.bl j) H Q=Q (.bl (decide (i=j))) H:=by
 show (scal (.bl i) (.bl j)=true∧Q (.bl (if false=true then _ else decide (V.bl i=V.bl j))) H)=_
 rw [if_neg Bool.false_ne_true]
 exact g0
theorem lV {i j:Bool}:dU K true (.bl i) (.bl j) H Q=Q (.bl (!decide (i=j))) H:=by
 show (scal (.bl i) (.bl j)=true∧Q (.bl (if true=true then !decide (V.bl i=V.bl j) else _)) H)=_
 rw [if_pos rfl]
 exact gQ
theorem eR:bootBuiltins "ValueError" = some (.type "ValueError"):=by decide+kernel
theorem pF {n:Nat} {z:Str}:Dn K H n (.str z) (.str z):=Dn.up (n:=0) (.inr (.inr (.inl ⟨z,rfl,rfl⟩))) (Nat.zero_le _)
theorem k7 {n:Nat} {a:Addr} {xs:List V} {ds:List Dt} (h:H a=some (.lst xs)) (p:Paired (Dn K H n) xs ds):Dn K H (n+1) (.ref a) (.l ds):= .inr (.inl ⟨a,xs,ds,rfl,rfl,bP.of h,p⟩)
end
def qR (K:PySem.W.Frag) (n:Nat) (t:lx) (a:Addr) (σ:St) (H:Hp) (Q:St→Hp→Prop):Option HO→Prop
 |some (.tup xs)=>xs.length=n∧t xs σ H Q
 |some (.lst xs)=>xs.length=n∧t xs σ H Q
 |_=> ∃xs,c2 K H a xs∧xs.length=n∧t xs σ H Q
def qB (K:PySem.W.Frag) (n:Nat) (t:lx):TG:=fun v σ H Q=>match v with
 | .ref a=>qR K n t a σ H Q (H a)
 |_=>False
theorem jE {K:PySem.W.Frag} {n:Nat} {t:lx} {a:Addr} {σ:St} {H:Hp} {Q:St→Hp→Prop}:qB K n t (.ref a) σ H Q=qR K n t a σ H Q (H a):=rfl
theorem mQ {K:PySem.W.Frag} {n:Nat} {t:lx} {a:Addr} {σ:St} {H:Hp} {Q:St→Hp→Prop} {xs:List V}:qR K n t a σ H Q (some (.tup xs))=(xs.length=n∧t xs σ H Q):=rfl
theorem mR {K:PySem.W.Frag} {n:Nat} {t:lx} {a:Addr} {σ:St} {H:Hp} {Q:St→Hp→Prop} {xs:List V}:qR K n t a σ H Q (some (.lst xs))=(xs.length=n∧t xs σ H Q):=rfl
section
variable {X:Cx}
end
def ot:V→List V→Hp→VK→Prop:=fun x vs H Q=>match x,vs with
 | .str z,[.str y]=>Q (.int (match Builtin.Str.occurrences z y 0 z.length 1 with|i::_=>(i:Int) | []=>-1)) H
 |_,_=>False
def l_:V→List V→Hp→VK→Prop:=fun x vs H Q=>match x,vs with
 | .str z,[.str y]=> ∃i r,Builtin.Str.occurrences z y 0 z.length 1=i::r∧Q (.int (i:Nat)) H
 |_,_=>False
noncomputable def qQ (z:Str) (i:Int):Str:=if i≤z.length then z else Builtin.Str.padded z 0 (i.toNat - z.length) 32
def oi:V→List V→Hp→VK→Prop:=fun x vs H Q=>match x,vs with
 | .str z,[.int i]=>(0≤i∧i≤1000)∧(qQ z i).length≤sizeLine∧Q (.str (qQ z i)) H
 |_,_=>False
section
variable {X:Cx}
end
def iL (ss:List Str) (y:Str) (j:Nat):Prop:=ss[j]?=some y∧∀m,m<j→ss[m]?≠some y
def l9 (K:PySem.W.Frag):V→List V→Hp→VK→Prop:=fun x vs H Q=>match x,vs with
 | .ref p,[.str y]=> ∃ss:List Str,c2 K H p (ss.map V.str)∧∃j,iL ss y j∧Q (.int (j:Nat)) H
 |_,_=>False
def ma (K:PySem.W.Frag):V→List V→Hp→VK→Prop:=fun x vs H Q=>match x,vs with
 | .ref p,[.str y]=> ∃ss:List Str,bP K H p (ss.map V.str)∧∃j,iL ss y j∧Q (.int (j:Nat)) H
 |_,_=>False
section
variable {X:Cx}
end
def rJoin (K:PySem.W.Frag):V→List V→Hp→VK→Prop:=fun x vs H Q=>match x,vs with
 | .str z,[.ref p]=> ∃ss:List Str,bP K H p (ss.map V.str)∧(ss.map (·.length)).sum+ss.length*z.length≤1000000∧Q (.str (Txt.join z ss)) H
 |_,_=>False
theorem eU: ∀{ss:List Str} {its:List Value},Vals (ss.map V.str) its→StrsAre its ss
 | [],_,.nil=> .nil
 |_::_,_,.cons r rr=>by
  obtain ⟨t,rfl⟩:=r
  exact .cons _ _ (eU rr)
theorem mG {X:Cx}:pS X "str.join" (rJoin X.K):=by
 intro pins s σ H x vs v us Q I rx rv h
 unfold rJoin at h
 split at h
 ·
  rename_i z p
  obtain ⟨ss,hq,hl,h⟩:=h
  obtain ⟨t,rfl⟩:=rx
  obtain ⟨u,rfl,ru⟩:=Vals.one rv
  obtain rfl:u=Value.ref p:=ru
  obtain ⟨its,r,pl,hz⟩:=I.list hq
  refine join_list pl.isList (by simpa using eU r) (by omega) fun t' k=>(show EP X pins σ Q _ _ from ⟨.str _,H,I.tok _,⟨_,rfl⟩,h⟩)
 ·exact h.elim
noncomputable def o5:Option Bool→Option Bool→Option Bool
 |some true,_=>some true
 |some false,o=>o
 |none,_=>none
theorem o3 {o:Option Bool}:o5 (some true) o=some true:=rfl
theorem o4 {o:Option Bool}:o5 (some false) o=o:=rfl
theorem kM {K:PySem.W.Frag} {t c d:Value}:PySem.W.kitAny K t [c,d]=o5 (PySem.W.kitOne K t c) (PySem.W.kitOne K t d):=by
 unfold PySem.W.kitAny PySem.W.kitAny PySem.W.kitAny
 cases PySem.W.kitOne K t c with
 |none=>rfl
 |some b=>
  cases b
  ·
   cases PySem.W.kitOne K t d with
   |none=>rfl
   |some b=>cases b<;>rfl
  ·rfl
def iK (N:Addr→Addr→Prop):Option HO→Prop
 |some (.tup [.ref C,.ref D])=>N C D
 |_=>False
theorem mL {N:Addr→Addr→Prop} {C D:Addr}:iK N (some (.tup [.ref C,.ref D]))=N C D:=rfl
def gW (K:PySem.W.Frag):List V→Hp→VK→Prop:=fun xs H Q=>match xs with
 | [.ref p,.ref t]=> ∃D dx,H p=some (.ext (cK p (.ref D) dx))∧cZ K D∧fg H dx∧iK (fun C1 C2=>hR (PySem.W.kitAny K (.ref D) [.ref C1,.ref C2]) fun b=>Q (.bl b) H) (H t)
 |_=>False
theorem gU {K:PySem.W.Frag} {p t:Addr} {H:Hp} {Q:VK}:gW K [.ref p,.ref t] H Q= ∃D dx,H p=some (.ext (cK p (.ref D) dx))∧cZ K D∧fg H dx∧iK (fun C1 C2=>hR (PySem.W.kitAny K (.ref D) [.ref C1,.ref C2]) fun b=>Q (.bl b) H) (H t):=rfl
section
variable {X:Cx} {e:Expr} {f:Str} {ta:TE} {pos:Pos}
theorem h9 (K:PySem.W.Frag) (hK:X.K=K):bK X (.builtin "isinstance") (gW K):=by
 subst hK
 intro pins s σ H xs us Q I rs q
 unfold gW at q
 split at q
 ·
  rename_i p t
  obtain ⟨u,c,rfl,ru,rc⟩:=vals2 rs
  obtain rfl:u=Value.ref p:=ru
  obtain rfl:c=Value.ref t:=rc
  obtain ⟨D,dx,hp,g,ok,q⟩:=q
  unfold iK at q
  split at q
  ·
   rename_i C1 C2 ht
   obtain ⟨ox,od,J,_⟩:=I.inst hp (fun d z=>by
    subst z
    obtain ⟨fs,ed⟩:=ok
    exact (I.hok d _ ed).there)
   obtain ⟨its,r,⟨o,ho,hc,n,hd⟩,hz⟩:=I.tuple (c2.of ht)
   obtain ⟨a,b,rfl,ra,rb⟩:=vals2 r
   obtain rfl:a=Value.ref C1:=ra
   obtain rfl:b=Value.ref C2:=rb
   obtain ⟨oc,od',odat,osl⟩:=o
   simp only at hc hd
   subst hc hd
   cases e:PySem.W.kitAny X.K (.ref D) [.ref C1,.ref C2] with
   |none=>rw [e] at q;exact q.elim
   |some b=>
    rw [e] at q
    exact PySem.W.kia_tup (kL g) I.dh ⟨ox,od,J⟩ ho e (fun z=>nomatch z) fun tk=>⟨.bl b,H,I.tok tk,rfl,q⟩
  ·exact q.elim
 ·exact q.elim
def gY (K:PySem.W.Frag) (f:Str) (x:V) (H:Hp) (Q:VK):Prop:= ∃a,x = .ref a∧∃C dx,H a=some (.ext (cK a (.ref C) dx))∧cZ K C∧ie K C f∧∃d,dx=some d∧∃fs,H d=some (.xd fs)∧∃v,fs.lookup f=some v∧Q v H
def jR (K:PySem.W.Frag) (f:Str) (ta:TE):TE:=fun σ H Q=>ta σ H fun x H1=>gY K f x H1 Q
theorem gX {K:PySem.W.Frag} {a:Addr} {f:Str} {H:Hp} {Q:VK}:gY K f (.ref a) H Q= ∃C dx,H a=some (.ext (cK a (.ref C) dx))∧cZ K C∧ie K C f∧∃d,dx=some d∧∃fs,H d=some (.xd fs)∧∃v,fs.lookup f=some v∧Q v H:=by
 apply propext;unfold gY;constructor
 ·rintro ⟨b,e,h⟩;cases e;exact h
 ·exact fun h=>⟨a,rfl,h⟩
theorem qG {d:Addr} {N:Addr→Prop}:(∃x,some d=some x∧N x)=N d:=by
 apply propext;constructor
 ·rintro ⟨x,e,h⟩;cases e;exact h
 ·exact fun h=>⟨d,rfl,h⟩
theorem ky (K:PySem.W.Frag) (hK:X.K=K) (he:PE X e ta) (hb:attributeBase e f X.env (eval e X.env)=eval e X.env):PE X (.Attribute e f pos) (jR K f ta):=by
 subst hK
 intro pins s σ H Q I h
 refine mY hb (thn (he pins s σ H _ I h) fun u s1 ⟨x,H1,I1,rx,a,ex,C,dx',ea,g,m,dx,edx,fs,ed,v,l,q⟩=>?_)
 subst ex
 subst edx
 obtain rfl:u=Value.ref a:=rx
 obtain ⟨mA,hn,hr⟩:=(show bf X.prog X.w H1 s1.heap dx (.xd fs) from I1.hok dx _ ed)
 obtain ⟨o,ho,hl⟩:=e7 hn
 obtain ⟨ox,od,J,hj⟩:=I1.inst ea (fun d z=>by cases z;exact ⟨o,ho⟩)
 have ej:=hj dx rfl
 rw [ho] at ej
 subst ej
 obtain ⟨u,hu,ru⟩:=ig.some_of (v:=v) (o:=mA f) (by rw [←l];exact hr f)
 exact hU I1.dh J g (PySem.W.findObj_own g.hd m.no rfl (by rw [hl,hu])) (jD ru) ⟨v,H1,I1.tok _,ru,q⟩
end
section
variable {K:PySem.W.Frag} {H:Hp} {Q:VK} {z y:Str} {p:Addr} {i:Int}
theorem gZ:ot (.str z) [.str y] H Q=Q (.int (match Builtin.Str.occurrences z y 0 z.length 1 with|i::_=>(i:Int) | []=>-1)) H:=rfl
theorem gd:l_ (.str z) [.str y] H Q= ∃i r,Builtin.Str.occurrences z y 0 z.length 1=i::r∧Q (.int (i:Nat)) H:=rfl
theorem gR:oi (.str z) [.int i] H Q=((0≤i∧i≤1000)∧(qQ z i).length≤sizeLine∧Q (.str (qQ z i)) H):=rfl
theorem gc:l9 K (.ref p) [.str y] H Q= ∃ss:List Str,c2 K H p (ss.map V.str)∧∃j,iL ss y j∧Q (.int (j:Nat)) H:=rfl
theorem gf:ma K (.ref p) [.str y] H Q= ∃ss:List Str,bP K H p (ss.map V.str)∧∃j,iL ss y j∧Q (.int (j:Nat)) H:=rfl
theorem ji:rJoin K (.str z) [.ref p] H Q= ∃ss:List Str,bP K H p (ss.map V.str)∧(ss.map (·.length)).sum+ss.length*z.length≤1000000∧Q (.str (Txt.join z ss)) H:=rfl
end
section
variable {X:Cx} (K:PySem.W.Frag)
theorem kI (h:X.K=K):pS X "str.join" (rJoin K):=h▸mG
end
section
variable {K:PySem.W.Frag} {g:TG} {tb:TS} {D:Ends} {σ:St} {H:Hp}
end
section
variable {K:PySem.W.Frag} {g:TG} {tb:TS} {D:Ends} {σ:St} {H:Hp} {ta:TA}
end
section
variable {X:Cx} {K:PySem.W.Frag}
end
theorem iz (a:Array Nat): ∀(n:Nat) (b:Array Nat),((List.replicate n a).foldl (· ++ ·) b).size=b.size+n*a.size
 |0,b=>by simp
 |n+1,b=>by
  rw [List.replicate_succ,List.foldl_cons,iz a n,Array.size_append,Nat.succ_mul]
  omega
def j8:R2:=fun x y H Q=>match x,y with
 | .str z,.int n=>(1≤n∧n≤1000)∧(1≤z.length∧z.length≤100)∧∀r:Str,r.length=z.length*n.toNat→Q (.str r) H
 |_,_=>False
theorem jd {z:Str} {n:Int} {H:Hp} {Q:VK}:j8 (.str z) (.int n) H Q=((1≤n∧n≤1000)∧(1≤z.length∧z.length≤100)∧∀r:Str,r.length=z.length*n.toNat→Q (.str r) H):=rfl
theorem mz {X:Cx}:cf X (binaryOp .Mult) j8:=by
 intro pins s σ H x y v u Q I rx ry q
 unfold j8 at q
 split at q
 ·
  rename_i z n
  obtain ⟨hn,hz,q⟩:=q
  obtain ⟨t,rfl⟩:=rx
  obtain ⟨t',rfl⟩:=ry
  have hb:z.length*n.toNat≤100000:=by
   have h1:n.toNat≤1000:=by omega
   have h2:=Nat.mul_le_mul hz.2 h1
   omega
  refine P.mul_str ?_ (fun _ _=>?_) (fun _ _=>?_) ?_
  ·rw [decide_eq_false (by omega),decide_eq_false (by omega)];rfl
  ·have h3:(1000:Int)≤(2 ^ 63 - 1) / n:=by
    rw [Int.le_ediv_iff_mul_le (by omega)]
    have:=Int.mul_le_mul_of_nonneg_left hn.2 (show (0:Int)≤1000 by decide)
    omega
   omega
  ·
   show decide (_ > sizeLine)=false
   rw [sizeLine_eq]
   exact decide_eq_false (by omega)
  ·
   rw [if_neg (by omega)]
   split
   ·
    rename_i c
    have e1:n=1:=by
     rcases (Bool.or_eq_true _ _).mp c with c|c
     ·exact eq_of_beq c
     ·have:=eq_of_beq c;omega
    exact ⟨.str z,H,I,⟨t,rfl⟩,q z (by rw [e1];simp)⟩
   ·have e2:(⟨(List.replicate n.toNat z.cps).foldl (· ++ ·) #[]⟩:Str).length=z.length*n.toNat:=by
     show ((List.replicate n.toNat z.cps).foldl (· ++ ·) #[]).size=_
     rw [iz,Nat.mul_comm]
     show 0+_=_
     rw [Nat.zero_add]
     rfl
    refine ⟨?_,⟨.str _,H,I.tok _,⟨_,rfl⟩,q _ e2⟩⟩
    rw [e2,sizeLine_eq]
    omega
 ·exact q.elim
theorem dM {M:Model} {Γ:PySem.Ctx} {p:Pos} {t:Sem Fin} {fs:List Frame} {s s':Shared} {e:End} (h:Runs M Γ p t fs s e s'):s.toks≤s'.toks:=by
 have e: ∀(s:Shared) g x,(s.setGen g x).toks=s.toks:=fun _ _ _=>rfl
 induction h<;>(try simp only [e] at*)<;>first|omega|assumption|exact Nat.le_trans (Nat.le_succ _) (by assumption)|exact Nat.le_trans (by assumption) (by assumption)
theorem gF {M:Model} {Γ:PySem.Ctx} {p:Pos} {g:Nat} {r:Resume} {s s':Shared} {res:GenResult} (h:Wakes M Γ p g r s res s'):s.toks≤s'.toks:=by
 unfold Wakes at h
 split at h
 ·exact h.elim
 ·
  split at h
  ·obtain ⟨_,_,q,_,_,rfl⟩:=h;have z:=dM q;exact z
  ·rw [h.2];exact Nat.le_refl _
  ·rw [h.2];exact Nat.le_refl _
 ·obtain ⟨_,_,q,_,_,rfl⟩:=h;have z:=dM q;exact z
 ·rw [h.2];exact Nat.le_refl _
 ·rw [h.2];exact Nat.le_refl _
theorem wp_toks {α:Type} (M:Model) (Γ:PySem.Ctx) (m:Sem α) (Q:α→Pos→Shared→Prop) (E:Value→Pos→Shared→Prop): ∀(p:Pos) (s:Shared) (n:Nat),n≤s.toks→Sem.wp M Γ m Q E p s→
  Sem.wp M Γ m (fun a p' s'=>Q a p' s'∧n≤s'.toks) (fun e p' s'=>E e p' s'∧n≤s'.toks) p s:=by
 induction m<;>intro p s n hn h<;>simp only [Sem.wp] at h⊢<;>try (first|exact ⟨h,hn⟩|exact h|(rename_i ih;exact ih _ _ _ _ (by simpa using hn) h)|(rename_i ih;exact ih _ _ _ _ (Nat.le_succ_of_le hn) h)|(obtain ⟨x,h1,h⟩:=h;rename_i ih;exact ⟨x,h1,ih _ _ _ _ hn h⟩)|(obtain ⟨h1,h⟩:=h;rename_i ih;exact ⟨h1,ih _ _ _ _ hn h⟩))
 ·
  obtain ⟨r,s1,h1,h⟩:=h
  rename_i ih
  exact ⟨r,s1,h1,ih _ _ _ _ (Nat.le_trans hn (dM h1)) h⟩
 ·
  obtain ⟨r,s1,h1,h⟩:=h
  rename_i ih
  exact ⟨r,s1,h1,ih _ _ _ _ (Nat.le_trans hn (gF h1)) h⟩
theorem cY {α:Type} {M:Model} {A:Around} {m:Sem α} {Q:α→Shared→Prop} {E:Value→Shared→Prop} {s:Shared} {n:Nat} (hn:n≤s.toks) (h:wpAny M A m Q E s):wpAny M A m (fun a s'=>Q a s'∧n≤s'.toks) E s:=
 fun Γ p hΓ=>Sem.wp_mono M Γ m (fun _ _ _ x=>x) (fun _ _ _ x=>x.1) p s (wp_toks M Γ m _ _ p s n hn (h Γ p hΓ))
end L2
namespace PySem
open Builtin Builtin.Str
theorem jZ {x y z:Str} {t u:Tok} (hu:u≠0):GivesAt (fun _=>True) («str.replace» ⟨[.str x t,.str y u,.str z u],[]⟩) (.val (.str x t)):=by
  show GivesAt _ (if ((occurrences x y 0 x.length (x.length+1)).isEmpty||(y.length == 0&&z.length == 0))=true then (do rule "str.replace.nothing";ret (.str x t)) else
          (do
              let same←isSame (.str y u) (.str z u)
              if same=true then (do rule "str.replace.old-is-new";ret (.str x t)) else
              if tooLong (x.length+(occurrences x y 0 x.length (x.length+1)).length*z.length)=true then unsupported "str.replace:memory" else
              retStr (glued z (partsBetween x (occurrences x y 0 x.length (x.length+1)) y.length)))) _
  have e:isSame (.str y u) (.str z u)=pure true:=by
    show isSame.created (y == z) u u=pure true
    unfold isSame.created
    simp [hu]
  rw [e]
  cases ((occurrences x y 0 x.length (x.length+1)).isEmpty||(y.length == 0&&z.length == 0))
  · exact Gives.at (.rule (.of_eq rfl))
  · exact Gives.at (.rule (.of_eq rfl))
end PySem
namespace L2
open PySem PySem.Spec PyProof.Rows
theorem lQ {prog:Program} {w:World} {A:Around} {E:Value→Shared→Prop} {s:Shared} {x y z:Str} {t u v:Tok} {Q:Value→Shared→Prop} (hu:u≠0) (hv:v≠0) (hb:x.length+(x.length+1)*z.length≤16777216) (hnb:NoneBooked s.heap)
  (hq: ∀r t' k,r.length≤sizeLine→Q (.str r t') {s with toks:=k}):wpAny (model prog w) A (call (.builtin "str.replace") [.str x t,.str y u,.str z v]) Q E s:=by
 have hx:x.length≤sizeLine:=by rw [sizeLine_eq];omega
 by_cases huv:u=v
 ·
  subst huv
  exact call_givesAt F.slot_str_replace (typeIs_str _ _ _) F.entry_str_replace (F.args_str_replace_3 _ _ _) (jZ hu) trivial (hq x t s.toks hx)
 ·
  refine SC.replaceA hu hv huv hb (fun t' k=>hq _ t' k ?_) hnb
  unfold Txt.replace
  split
  ·exact hx
  ·exact fits_replaced y hb
def qT (K:PySem.W.Frag):Prop:=PySem.W.nsIn K cStatics sharingNotToldKey=some none
theorem mE {K:PySem.W.Frag} {h:Heap} {a:Addr} {mg:Str→Option Value} {n:Str} (X:K.In h) (G:h.Ns a mg) (e:PySem.W.nsIn K a n=some none):mg n=none:=by
 obtain ⟨o,es,ep,ho,hd,_,hf⟩:=G
 unfold PySem.W.nsIn at e
 split at e
 ·
  rename_i q
  have:=X _ _ q
  rw [ho] at this
  cases this
  cases hd
  split at e
  ·cases e
  ·
   rename_i he
   rw [←hf]
   unfold nsFind findBy
   rw [←Array.find?_toList,he]
   rfl
 ·cases e
section
variable {X:Cx} {pins:List (Addr×Obj)} {σ:St} {H:Hp} {s:Shared}
theorem Inv.booked (I:Inv X pins σ H s) (u:qT X.K):NoneBooked s.heap:=by
 obtain ⟨mc,hn,_⟩:=I.nolimit
 exact ⟨mc,hn,mE I.dh hn u⟩
def iB:V→List V→Hp→VK→Prop:=fun x vs H Q=>match x,vs with
 | .str x,[.tok y,.tok z]=>x.length+(x.length+1)*z.length≤16777216∧∀r:Str,r.length≤sizeLine→Q (.str r) H
 |_,_=>False
theorem g_ (hb:qT X.K):pS X "str.replace" iB:=by
 intro pins s σ H x vs v us Q I rx rv h
 unfold iB at h
 split at h
 ·
  obtain ⟨h1,q⟩:=h
  obtain ⟨t,rfl⟩:=rx
  cases rv with
  |cons r1 rr=>
  cases rr with
  |cons r2 rr=>
  cases rr
  obtain ⟨t1,n1,rfl⟩:=r1
  obtain ⟨t2,n2,rfl⟩:=r2
  exact lQ n1 n2 h1 (I.booked hb) fun r t' k hr=>⟨.str r,H,I.tok _,⟨_,rfl⟩,q r hr⟩
 ·exact h.elim
theorem gp {K:PySem.W.Frag} (h:X.K=K) (u:qT K):pS X "str.replace" iB:=g_ (h▸u)
theorem jc {x y z:Str} {Q:VK}:iB (.str x) [.tok y,.tok z] H Q=(x.length+(x.length+1)*z.length≤16777216∧∀r:Str,r.length≤sizeLine→Q (.str r) H):=rfl
def pR (X:Cx) (e:Expr) (t:TE):Prop:=
 ∀(pins:List (Addr×Obj)) (s:Shared) (σ:St) (H:Hp) (Q:VK),Inv X pins σ H s→t σ H Q→wpAny (model X.prog X.w) X.A (eval e X.env) (fun u s'=>EP X pins σ Q u s'∧1≤s'.toks) X.xe s
variable {a b:Expr} {ta tb te:TE} {pos:Pos}
theorem qp {op:Operator} {r:R2} {i:Int} {j p} (ho:cf X (binaryOp op) r) (ha:PE X a ta):pR X (.BinOp a op (.Constant (.int i) j p) pos) (nV r ta (tC (.int i))):=by
 intro pins s σ H Q I h
 refine wpAny_BinOp (thn (ha pins s σ H _ I h) fun v s1 ⟨x,H1,I1,r1,q1⟩=>wpAny_Constant_int ?_)
 exact cY (Nat.le_add_left 1 _) (ho pins _ σ H1 x (.int i) v _ Q (I1.tok _) r1 ⟨_,rfl⟩ q1)
theorem pR.op {op:Operator} {r:R2} (ho:cf X (binaryOp op) r) (ha:pR X a ta) (hb:PE X b tb):pR X (.BinOp a op b pos) (nV r ta tb):=by
 intro pins s σ H Q I h
 refine wpAny_BinOp (thn (ha pins s σ H _ I h) fun v s1 ⟨⟨x,H1,I1,r1,q1⟩,n⟩=>?_)
 exact thn (cY n (hb pins s1 σ H1 _ I1 q1)) fun u s2 ⟨⟨y,H2,I2,r2,q2⟩,n2⟩=>cY n2 (ho pins _ σ H2 x y v u Q I2 r1 r2 q2)
noncomputable def gx:List Expr→Option (List V)
 | []=>some []
 | .Constant (.str x) _ _::es=>(gx es).map (V.tok x :: ·)
 |_::_=>none
theorem kC: ∀{es:List Expr} {vs:List V},gx es=some vs→∀(pos:Pos) (pins:List (Addr×Obj)) (s:Shared) (σ:St) (H:Hp) (Q:List V→Hp→Prop),1≤s.toks→Inv X pins σ H s→Q vs H→wpAny (model X.prog X.w) X.A (spliced (backTo pos (starEach es X.env))) (AP X pins σ Q) X.xe s
 | [],vs,h,pos,pins,s,σ,H,Q,n,I,q=>by
  obtain rfl: []=vs:=by simpa [gx] using h
  exact Calls.spliced_nil ⟨[],H,I,.nil,q⟩
 |e::es,vs,h,pos,pins,s,σ,H,Q,n,I,q=>by
  unfold gx at h
  split at h
  ·rename_i h1;exact absurd h1 (by simp)
  ·
   rename_i x j p es' h1
   obtain ⟨rfl,rfl⟩:=List.cons.inj h1
   rw [Option.map_eq_some_iff] at h
   obtain ⟨ws,h2,rfl⟩:=h
   show wpAny _ _ (spliced ((false,eval (.Constant (.str x) j p) X.env)::backTo pos (starEach es X.env))) _ _ s
   refine Calls.spliced_cons (Calls.Constant_str ?_)
   exact thn (kC h2 pos pins _ σ H (fun xs H2=>Q (V.tok x::xs) H2) (Nat.le_add_left 1 _) (I.tok _) q) fun us s2 ⟨xs,H2,I2,r2,q2⟩=>⟨V.tok x::xs,H2,I2,.cons (show RelV (.tok x) _ from ⟨_,Nat.pos_iff_ne_zero.mp n,rfl⟩) r2,q2⟩
  ·exact absurd h (by simp)
def m_ (te:TE) (i k:Nat) (vs:List V) (u:TS):TS:=fun D σ H=>te σ H fun v H1=> ∀p,H1 p=none→u D ((σ.set i (some v)).set k (some (.ref p))) (upd H1 p (.lst vs))
theorem mn {i k:Nat} {x y:Str} {e:Expr} {es:List Expr} {vs:List V} {rest:List Stmt} {u:TS} {px py pl pos2:Pos} (hN:X.N.Nodup) (hi:X.N[i]?=some x) (hx:Loc X.env.scope x) (he:pR X e te) (hk:X.N[k]?=some y) (hy:Loc X.env.scope y) (hc:gx es=some vs) (hz:vs.length≤sizeLine) (hr:eI X rest u)
  (hs:du e=false:=by rfl) (hf:X.fn x=true∨X.env.scope.names.lookup x=some .local:=by first|exact .inl rfl|exact .inr rfl|assumption) (hg:X.fn y=true∨X.env.scope.names.lookup y=some .local:=by first|exact .inl rfl|exact .inr rfl|assumption):
  eI X (.Assign [.Name x px] e pos :: .Assign [.Name y py] (.List es pl) pos2::rest) (m_ te i k vs u):=by
 intro pins s σ H D I h
 refine wpAny_execs_cons (thn (Q:=fun f s1=>f = .next∧1≤s1.toks∧∃v H1,Inv X pins (σ.set i (some v)) H1 s1∧∀p,H1 p=none→u D ((σ.set i (some v)).set k (some (.ref p))) (upd H1 p (.lst vs))) ?_ fun f s1 ⟨hn,n1,v,H1,I1,q1⟩=>?_)
 ·
  refine wpAny_Assign_Name (thn (he pins s σ H _ I h) fun v s1 ⟨⟨y,H1,I1,r1,q1⟩,n⟩=>?_) (cM hs)
  refine thn (cY n (cu (Q:=fun _ s2=>Inv X pins (σ.set i (some y)) H1 s2) I1 hN hi hx r1 (fun s2 I2=>I2) hf)) fun _ s2 ⟨I2,n2⟩=>⟨rfl,n2,y,H1,I2,q1⟩
 ·
  subst hn
  refine wpAny_execs_cons (thn (Q:=fun f s2=>f = .next∧∃p,H1 p=none∧Inv X pins ((σ.set i (some v)).set k (some (.ref p))) (upd H1 p (.lst vs)) s2) ?_ fun f s2 ⟨hn,p,hp,I2⟩=>?_)
  ·
   refine wpAny_Assign_Name (wpAny_List_spliced (thn (kC hc pl pins s1 _ H1 (fun xs H'=>xs=vs∧H'=H1) n1 I1 ⟨rfl,rfl⟩) fun us s2 ⟨xs,H2,I2,r,e1,e2⟩=>⟨?_,?_⟩)) (cM rfl)
   ·rw [←r.length,e1];exact hz
   ·
    subst e1;subst e2
    have hf':H2 s2.heap.objs.size=none:=I2.hok.fresh (Nat.le_refl _)
    have I3:=I2.laid (a:=s2.heap.objs.size) (o:= .lst xs) (t':=s2.toks) (fun b u e=>Heap.get?_push_of_some _ e) (Nat.le_refl _) ⟨hz,us,0,r,Heap.get?_push_size _ rfl⟩
    exact cu (v:= .ref s2.heap.objs.size) I3 hN hk hy rfl (fun s4 I4=>⟨rfl,_,hf',I4⟩) hg
  ·
   subst hn
   exact hr pins s2 _ _ D I2 (q1 p hp)
noncomputable def rD:V→V
 | .tok x=> .str x
 |v=>v
theorem lI {x:Str}:rD (.tok x) = .str x:=rfl
def pX (te:TE):TE:=fun σ H Q=>te σ H fun v H1=>Q (rD v) H1
theorem fB {e:Expr} (h:PE X e te):PE X e (pX te):=by
 intro pins s σ H Q I q
 refine thn (h pins s σ H _ I q) fun u s1 ⟨v,H1,I1,r,q1⟩=>?_
 cases v with
 |tok x=>obtain ⟨t,_,rfl⟩:=r;exact ⟨.str x,H1,I1,⟨t,rfl⟩,q1⟩
 |_=>exact ⟨_,H1,I1,r,q1⟩
def p5 (z:Str) (te:TE):TE:=fun σ H Q=>te σ H fun v H1=> ∃i c,v = .int i∧z.length≤sizeLine∧jK z.cps.toList i=some c∧Q (.tok ⟨#[c]⟩) H1
theorem oH {z:Str} {e:Expr} {j p} (he:PE X e te) (hp:iV e):PE X (.Subscript (.Constant (.str z) j p) e pos) (p5 z te):=by
 intro pins s σ H Q I h
 refine Subscript_ (Calls.Constant_str (thn (cY (Nat.le_add_left 1 _) (he pins _ σ H _ (I.tok _) h)) fun u s2 ⟨⟨v,H2,I2,r2,i,c,e1,hz,hc,q⟩,n⟩=>?_))
 subst e1
 obtain ⟨t',rfl⟩:=r2
 obtain ⟨j,h1,h2,h3,h4,h5⟩:=d6 hc
 have hl:z.cps.toList.length=z.length:=by simp [Str.length]
 rw [hl] at h1 h4 h5
 have hn:=dN
 exact tail_any (typeIs_str s2 z _) slot_str_getitem.lookup (getItem_str (c:=c) (by
  have e1:decide (i < -(2 ^ 63:Int))=false:=decide_eq_false (by omega)
  have e2:decide (i≥2 ^ 63)=false:=decide_eq_false (by omega)
  rw [e1,e2,Bool.or_false]) (by rw [h1];simpa using h2) ⟨.tok ⟨#[c]⟩,H2,I2.tok _,⟨_,Nat.pos_iff_ne_zero.mp n,rfl⟩,q⟩) (hp _ _)
theorem i_ {tg:Expr} {R:It→Hp→Prop} {E:Value→Shared→Prop} {lo hi c:Int} {t u v:Tok} {tk:Nat} (I:Inv X pins σ H s) (hs:Builtin.Range.small lo hi c=true) (hc:0≤Builtin.Range.rangeSize lo hi c)
  (q:R (ik lo c (rcount lo hi c)) H):wpAny (model X.prog X.w) X.A (pyIter (.ref s.heap.objs.size)) (rA X pins σ tg R) E {s with heap:=s.heap.push {cls:= .type "range",data:= .fields #[.int lo t,.int hi u,.int c v]},toks:=tk}:=by
 refine wpAny_pyIter_range (IsRange.new ..) hs ?_
 have I1:Inv X pins σ H {s with heap:=s.heap.push {cls:= .type "range",data:= .fields #[.int lo t,.int hi u,.int c v]},toks:=tk}:=I.kept fun b o e=>Heap.get?_push_of_some _ e
 refine ⟨(s.heap.push {cls:= .type "range",data:= .fields #[.int lo t,.int hi u,.int c v]}).objs.size,[(s.heap.push {cls:= .type "range",data:= .fields #[.int lo t,.int hi u,.int c v]}).objs.size],_,_,H,rfl,
  I1.kept (t':=tk) fun b o e=>Heap.get?_push_of_some _ e,fX _ lo c (rcount lo hi c),?_,fun b hb=>?_,q⟩
 ·
  have e1:lo+((0:Nat):Int)*c=lo:=by simp
  have e2:((rcount lo hi c:Nat):Int) - ((0:Nat):Int)=Builtin.Range.rangeSize lo hi c:=by
   unfold rcount
   omega
  show IsRangeIter _ _ (lo+((0:Nat):Int)*c) (((rcount lo hi c:Nat):Int) - ((0:Nat):Int)) c
  rw [e1,e2]
  exact Heap.get?_push_size _ rfl
 ·
  have e:b=(s.heap.push {cls:= .type "range",data:= .fields #[.int lo t,.int hi u,.int c v]}).objs.size:=by simpa using hb
  subst e
  exact I1.hX (Nat.le_refl _) (I1.hok.fresh (Nat.le_refl _))
def f7 (vs:List V) (H1:Hp) (R:It→Hp→Prop):Prop:=match vs with
 | [.int i,.int j,.int c]=>(c≠0∧Builtin.Range.small i j c=true∧0≤Builtin.Range.rangeSize i j c∧Builtin.divisionGoesByPylong (j - i) c=false)∧R (ik i c (rcount i j c)) H1
 |_=>False
def nz (ta:TA):TI:=fun σ H R=>ta σ H fun vs H1=>f7 vs H1 R
theorem jr {tg a b c:Expr} {ta:TA} {p pos:Pos} (hg:Gl X "range") (hm:X.mg "range" = none) (ha:PA X [a,b,c] ta) (hs:starEach [a,b,c] X.env= [(false,eval a X.env),(false,eval b X.env),(false,eval c X.env)]:=by rfl) (hs2:starEach [b,c] X.env= [(false,eval b X.env),(false,eval c X.env)]:=by rfl):
  PI X tg (.Call (.Name "range" p) [a,b,c] [] pos) (nz ta):=by
 intro pins s σ H R I h
 refine Call_ (fL I hg hm boot_range (PyProof.Rows.callWith_type1 (thn (ha pos pins s σ H _ I h) fun us s1 ⟨vs,H1,I1,r1,q1⟩=>?_) (by rw [hs,hs2]) (by rw [hs2];rfl)))
 replace q1:f7 vs H1 R:=q1
 unfold f7 at q1
 split at q1
 ·
  obtain ⟨⟨q1,q2,q3,q4⟩,q⟩:=q1
  cases r1 with
  |cons r rr=>
   cases rr with
   |cons r' rr=>
    cases rr with
    |cons r'' rr=>
     cases rr
     obtain ⟨t,rfl⟩:=r
     obtain ⟨t',rfl⟩:=r'
     obtain ⟨t'',rfl⟩:=r''
     exact call_range_3 q1 (i_ I1 q2 q3 q) (Or.inl q4)
 ·exact q1.elim
theorem i6 {i j c:Int} {R:It→Hp→Prop}:f7 [.int i,.int j,.int c] H R=((c≠0∧Builtin.Range.small i j c=true∧0≤Builtin.Range.rangeSize i j c∧Builtin.divisionGoesByPylong (j - i) c=false)∧R (ik i c (rcount i j c)) H):=rfl
theorem gK {nv:Nat} {ix:List Nat} {ta:TA} {g:TG} {tt:TT} {te:TE} {Q:VK}:eX nv ix (nz ta) g tt te σ H Q=ta σ H fun vs H1=>f7 vs H1 fun J H2=>cX J g tt te (bu nv ix σ) H2 fun ys H'=>ys.length≤sizeLine∧∀l,H' l=none→Q (.ref l) (upd H' l (.lst ys)):=rfl
noncomputable def d9 (lo c:Int) (n:Nat):List V:=(List.range n).map fun i:Nat=> .int (lo+(i:Int)*c)
theorem mV {lo c:Int} {n:Nat} {tt:TT} {te:TE} {tail:St} {Q:List V→Hp→Prop} {f:V→V} (hz:n≤sizeLine) (ht: ∀i:Nat,i<n→∀Q:Bool→Hp→Prop,Q true H→tt (some (.int (lo+i*c))::tail) H Q) (he: ∀i:Nat,i<n→∀Q:VK,Q (f (.int (lo+i*c))) H→te (some (.int (lo+i*c))::tail) H Q)
  (q:Q ((d9 lo c n).map f) H):cX (ik lo c n) (ez 0) tt te (none::tail) H Q:=by
 have e3:((d9 lo c n).filter fun _=>true)=d9 lo c n:=List.filter_eq_self.mpr fun _ _=>rfl
 rw [←e3] at q
 refine e9 (p:=fun _=>true) (n:=n) (xs:=d9 lo c n) (by simp [d9]) hz (fun i hi=>hi) (Nat.le_refl _) (fun i x H' hi y=>?_) (fun x hx=>?_) (fun x hx=>?_) q
 ·
  obtain ⟨e,rfl⟩:=y
  refine ⟨e,?_⟩
  unfold d9
  rw [List.getElem?_map,List.getElem?_range hi]
  rfl
 ·
  obtain ⟨i,hi,rfl⟩:=List.mem_map.mp hx
  exact ht i (List.mem_range.mp hi)
 ·
  obtain ⟨i,hi,rfl⟩:=List.mem_map.mp hx
  exact fun _=>he i (List.mem_range.mp hi)
end
end L2
namespace K19
open PySem L2 Com
def au (u:TS):TS:=u
theorem av {X:Cx} {l:List Stmt} {u:TS} (h:eI X l u):eI X l (au u):=h
noncomputable def top (i:Nat):Stmt:=PySem.Challenge.pw_slowroad_k19_bits_as_texts.main.body.getD i (.Pass ⟨0,0,0,0⟩)
abbrev lB (ps:List Str) (x y:Str) (s:Stmt):Prop:= ∀(kV doc pm:Value) (an:Option Addr) (cdv ct:Value) (us:List Value),us.length=ps.length→bindArgs (PySem.W.fnOf x y (bN s) (bj s) (aj s) .none kV doc pm an cdv ct) ⟨us,[]⟩=pure (ps.zip us)
theorem nu {α:Type} {us:List α} (h:us.length=1): ∃a0,us= [a0]:=List.length_eq_one_iff.mp h
theorem qw {α:Type} {us:List α} (h:us.length=2): ∃a0 a1,us= [a0,a1]:=by
 obtain ⟨a,t,rfl⟩:=List.exists_cons_of_length_eq_add_one h
 obtain ⟨b0,rfl⟩:=nu (Nat.succ.inj h)
 exact ⟨a,b0,rfl⟩
set_option hygiene false in
local macro_rules | `(tactic| exists 2) => `(tactic| exact ⟨rfl,rfl,rfl,by decide +kernel,rfl,by decide +kernel,by decide +kernel⟩)
set_option hygiene false in
local macro_rules | `(tactic| exists 3) => `(tactic| (intro _ _ _ _ _ _ us hl; first | (obtain ⟨_,rfl⟩ := nu hl; rfl) | (obtain ⟨_,_,rfl⟩ := qw hl; rfl)))
noncomputable abbrev bF:Stmt:=inClass (top 2) 0
theorem c9:bb ["self","frame"] ["self","frame"] (aj bF):=by exists 2
theorem dc:lB ["self","frame"] "__init__" "NoFrame.__init__" bF:=by exists 3
noncomputable abbrev dm:Stmt:=top 7
theorem fZ:bb ["number"] ["number"] (aj dm):=by exists 2
theorem gA:lB ["number"] "is_frame" "is_frame" dm:=by exists 3
noncomputable abbrev dJ:Stmt:=top 9
theorem gP:bb ["frame"] ["frame"] (aj dJ):=by exists 2
theorem h_:lB ["frame"] "bits_of" "bits_of" dJ:=by exists 3
noncomputable abbrev dn:Stmt:=top 10
theorem cj:bb ["text","frame","sign"] ["text"] (aj dn):=by exists 2
theorem gB:lB ["text"] "frame_of" "frame_of" dn:=by exists 3
noncomputable abbrev cA:Stmt:=top 12
theorem eO:bb ["_law_found"] ["_law_found"] (aj cA):=by exists 2
theorem eS:lB ["_law_found"] "_law_whole" "_law_whole" cA:=by exists 3
noncomputable abbrev cm:Stmt:=top 13
theorem b_:bb ["_law_cell","_law_way","_law_rest"] ["_law_cell"] (aj cm):=by exists 2
theorem eF:lB ["_law_cell"] "_law_number" "_law_number" cm:=by exists 3
noncomputable abbrev cQ:Stmt:=top 14
theorem b4:bb ["_law_number_here","_law_text_here","_law_k"] ["_law_number_here"] (aj cQ):=by exists 2
theorem fQ:lB ["_law_number_here"] "_law_text" "_law_text" cQ:=by exists 3
noncomputable abbrev bE:Stmt:=top 15
theorem br:bb ["_law_text_here","_law_cell","_law_at","_law_some","_law_sign"] ["_law_text_here","_law_cell"] (aj bE):=by exists 2
theorem da:lB ["_law_text_here","_law_cell"] "_law_text_spoilt" "_law_text_spoilt" bE:=by exists 3
noncomputable abbrev cb:Stmt:=top 16
theorem bC:bb ["_law_what","_law_is_number","_law_error","e"] ["_law_what","_law_is_number"] (aj cb):=by exists 2
theorem dX:lB ["_law_what","_law_is_number"] "_law_refused" "_law_refused" cb:=by exists 3
noncomputable abbrev cR:Stmt:=top 17
theorem fq:bb ["_law_text_here"] ["_law_text_here"] (aj cR):=by exists 2
theorem fR:lB ["_law_text_here"] "_law_good" "_law_good" cR:=by exists 3
noncomputable abbrev jW:Stmt:=top 18
theorem cP:bb ["_law_script","_law_cell","_law_number_here","_law_text_here","_law_found","_law_told"] ["_law_script"] (aj jW):=by exists 2
theorem lp:lB ["_law_script"] "law" "law" jW:=by exists 3
structure Txt (K:PySem.W.Frag) (mg:Str→Option Value) (aw aa aq ah:Addr):Prop where
 cx:gD K mg "RoadError" aw
 dj:gD K mg "NoFrame" aa
 dG:gD K mg "Spoilt" aq
 di:gD K mg "NoPiece" ah
 cq:qK K mg "NoFrame" aa aw
 b8:cZ K aa
 cG:PySem.W.keepIn K (.ref aa)=true
 aC:ie K aa "frame"
 bS:PySem.W.kitOne K (.ref aa) (.type "ValueError")=some true
 az:PySem.W.kitOne K (.ref aa) (.ref aw)=some true
 aB:isx K (.ref aa) aw=some true
 aL:PySem.W.kitOne K (.ref aa) (.ref aa)=some true
 aP:isx K (.ref aa) aa=some true
 aU:PySem.W.kitOne K (.ref aa) (.ref aq)=some false
 aY:isx K (.ref aa) aq=some false
 aK:PySem.W.kitOne K (.ref aa) (.ref ah)=some false
 aO:isx K (.ref aa) ah=some false
 fV:qK K mg "Spoilt" aq aw
 cv:cZ K aq
 e8:PySem.W.keepIn K (.ref aq)=true
 a3:ie K aq "frame"
 b5:PySem.W.kitOne K (.ref aq) (.type "ValueError")=some true
 aD:PySem.W.kitOne K (.ref aq) (.ref aw)=some true
 aF:isx K (.ref aq) aw=some true
 aS:PySem.W.kitOne K (.ref aq) (.ref aa)=some false
 aW:isx K (.ref aq) aa=some false
 a5:PySem.W.kitOne K (.ref aq) (.ref aq)=some true
 a7:isx K (.ref aq) aq=some true
 aR:PySem.W.kitOne K (.ref aq) (.ref ah)=some false
 aV:isx K (.ref aq) ah=some false
 eT:qK K mg "NoPiece" ah aw
 b7:cZ K ah
 et:PySem.W.keepIn K (.ref ah)=true
 a4:ie K ah "what"
 bR:PySem.W.kitOne K (.ref ah) (.type "ValueError")=some true
 ay:PySem.W.kitOne K (.ref ah) (.ref aw)=some true
 aA:isx K (.ref ah) aw=some true
 aJ:PySem.W.kitOne K (.ref ah) (.ref aa)=some false
 aN:isx K (.ref ah) aa=some false
 aT:PySem.W.kitOne K (.ref ah) (.ref aq)=some false
 aX:isx K (.ref ah) aq=some false
 aI:PySem.W.kitOne K (.ref ah) (.ref ah)=some true
 aM:isx K (.ref ah) ah=some true
 unb:qT K
 bI:MethAt K aa "__init__" "NoFrame.__init__" bF
 dv:b3 K mg "is_frame" dm
 dP:b3 K mg "bits_of" dJ
 dw:b3 K mg "frame_of" dn
 cH:b3 K mg "_law_whole" cA
 cp:b3 K mg "_law_number" cm
 cV:b3 K mg "_law_text" cQ
 bH:b3 K mg "_law_text_spoilt" bE
 cc:b3 K mg "_law_refused" cb
 cW:b3 K mg "_law_good" cR
 iS:b3 K mg "law" jW
 cI:mg "ValueError" = none
 lu:mg "all" = none
 ia:mg "bool" = none
 lr:mg "int" = none
 a_:mg "isinstance" = none
 eG:mg "len" = none
 d5:mg "range" = none
 lq:mg "str" = none
 bO:nJ mg "FRAME_BITS" (.int 74)
noncomputable def dg (m:Nat):Nat→List Nat
 |0=>[]
 |k+1=>(48+m / 2 ^ k % 2)::dg m k
theorem dO (m:Nat): ∀k,(dg m k).length=k
 |0=>rfl
 |k+1=>by rw [dg,List.length_cons,dO m k]
noncomputable def tx (m:Nat):Str:=⟨(dg m 74).toArray⟩
theorem fj (m:Nat):(tx m).length=74:=by show (dg m 74).toArray.size=74;rw [List.size_toArray,dO]
noncomputable def bt (c:Nat):Nat:=if c=49 then 1 else 0
noncomputable def vl:List Nat→Nat
 | []=>0
 |c::l=>bt c*2 ^ l.length+vl l
theorem nN (l:List Nat) (c:Nat):vl (l++ [c])=vl l*2+bt c:=by
 induction l with
 |nil=>simp [vl]
 |cons a l ih=>
  show bt a*2 ^ (l++ [c]).length+vl (l++ [c])=(bt a*2 ^ l.length+vl l)*2+bt c
  rw [ih,List.length_append,List.length_cons,List.length_nil,Nat.pow_succ,←Nat.mul_assoc];omega
noncomputable def cL (c:Nat):Bool:=decide (c=48)||decide (c=49)
theorem dy {c:Nat}:cL c=true↔c=48∨c=49:=by simp [cL]
noncomputable def bJ (z:Str):Bool:=decide (z.length=74)&&z.cps.toList.all cL
theorem jN: ∀l:List Nat,vl l<2 ^ l.length
 | []=>by decide
 |c::l=>by
  have:=jN l
  show bt c*2 ^ l.length+vl l<2 ^ (l.length+1)
  have hb:bt c=0∨bt c=1:=by unfold bt;split<;>simp
  rw [Nat.pow_succ]
  rcases hb with e|e<;>rw [e]<;>omega
theorem pH {m n k:Nat} (h:m % 2 ^ k=n % 2 ^ k):dg m k=dg n k:=by
 induction k with
 |zero=>rfl
 |succ k ih=>
  have e:m / 2 ^ k % 2=n / 2 ^ k % 2:=by
   rw [←Nat.mod_mul_right_div_self,←Nat.mod_mul_right_div_self,←Nat.pow_succ,h]
  rw [dg,dg,e,ih]
  rw [←Nat.mod_mod_of_dvd m (Nat.pow_dvd_pow 2 (Nat.le_succ k)),h,Nat.mod_mod_of_dvd n (Nat.pow_dvd_pow 2 (Nat.le_succ k))]
theorem nF: ∀{l:List Nat},(∀c∈l,cL c=true)→dg (vl l) l.length=l
 | [],_=>rfl
 |c::l,h=>by
  have hl:=jN l
  have ih:=nF (l:=l) fun x hx=>h x (.tail _ hx)
  show dg (bt c*2 ^ l.length+vl l) (l.length+1)=c::l
  have p:0<2 ^ l.length:=Nat.pow_pos (by decide)
  rw [dg,show (bt c*2 ^ l.length+vl l) / 2 ^ l.length=bt c by rw [Nat.add_comm,Nat.add_mul_div_right _ _ p,Nat.div_eq_of_lt hl,Nat.zero_add]]
  rw [pH (n:=vl l) (by rw [Nat.add_comm,Nat.add_mul_mod_self_right]),ih]
  rcases dy.mp (h c (.head _)) with rfl|rfl<;>rfl
theorem m9 (m:Nat): ∀k,vl (dg m k)=m % 2 ^ k
 |0=>by rw [Nat.pow_zero,Nat.mod_one];rfl
 |k+1=>by
  show bt (48+m / 2 ^ k % 2)*2 ^ (dg m k).length+vl (dg m k)=_
  rw [dO,m9 m k,Nat.pow_succ,Nat.mod_mul]
  have:bt (48+m / 2 ^ k % 2)=m / 2 ^ k % 2:=by
   rcases Nat.mod_two_eq_zero_or_one (m / 2 ^ k) with e|e<;>rw [e]<;>rfl
  rw [this,Nat.mul_comm,Nat.add_comm]
theorem nG (m:Nat): ∀k,∀c∈dg m k,cL c=true
 |0,c,h=>nomatch h
 |k+1,c,h=>by
  rw [dg] at h
  rcases List.mem_cons.mp h with rfl|h
  ·rcases Nat.mod_two_eq_zero_or_one (m / 2 ^ k) with e|e<;>rw [e]<;>rfl
  ·exact nG m k c h
theorem mP (m:Nat):bJ (tx m)=true:=by
 unfold bJ
 rw [fj,Bool.and_eq_true,List.all_eq_true]
 refine ⟨rfl,fun c hc=>nG m 74 c ?_⟩
 simpa [tx] using hc
noncomputable def iW (z:Str):Nat:=vl z.cps.toList
theorem nO {m:Nat} (h:m<2 ^ 74):iW (tx m)=m:=by
 have:(tx m).cps.toList=dg m 74:=by simp [tx]
 rw [iW,this,m9,Nat.mod_eq_of_lt h]
theorem nQ {z:Str} (h:bJ z=true):tx (iW z)=z∧iW z<2 ^ 74:=by
 unfold bJ at h
 rw [Bool.and_eq_true,decide_eq_true_eq,List.all_eq_true] at h
 have hl:z.cps.toList.length=74:=by rw [Array.length_toList];exact h.1
 have e:=nF h.2
 rw [hl] at e
 have v:=jN z.cps.toList
 rw [hl] at v
 refine ⟨?_,v⟩
 show (⟨(dg (vl z.cps.toList) 74).toArray⟩:Str)=z
 rw [e]
theorem dropx {H H1:Hp} {e d C:Addr} {o:HO} {f:Str} {v:V} (S:bw H H1) (he:H1 e=none) (hd:upd H1 e o d=none):bw H (cU (upd (upd (upd H1 e o) d (.xd [(f,v)])) e (.ext (jG e C (some d)))) e)∧cU (upd (upd (upd H1 e o) d (.xd [(f,v)])) e (.ext (jG e C (some d)))) e d=some (.xd [(f,v)]):=by
 have nd:d≠e:=fun z=>by rw [z,ak] at hd;cases hd
 refine ⟨fun b u hb=>?_,?_⟩
 ·
  have h1:=S b u hb
  have nb:b≠e:=aE h1 he
  rw [bW nb,af nb,af (fun z=>?_),af nb];exact h1
  rw [z] at h1
  rw [af nd] at hd
  rw [h1] at hd;cases hd
 ·rw [bW nd,af nd,ak]
theorem join_ones (cs:List Nat):(Txt.join (Str.ofString "") (cs.map fun c=>(⟨#[c]⟩:Str))).cps.toList=cs:=by
 cases cs with
 |nil=>rfl
 |cons a l=>
  have: ∀(l:List Nat) (z:Array Nat),((l.map fun c=>(⟨#[c]⟩:Str)).foldl (fun acc p=>acc++(Str.ofString "").cps++p.cps) z).toList=z.toList++l:=by
   intro l
   induction l with
   |nil=>intro z;simp
   |cons b l ih=>
    intro z
    rw [List.map_cons,List.foldl_cons,ih]
    show ((z ++ #[]) ++ #[b]).toList++l=_
    simp
  exact this l #[a]
theorem mH {l:List Nat}:Txt.join (Str.ofString "") (l.map fun c=>(⟨#[c]⟩:Str))=⟨l.toArray⟩:=by
 have h:=join_ones l
 generalize Txt.join (Str.ofString "") (l.map fun c=>(⟨#[c]⟩:Str))=z at h
 obtain ⟨a⟩:=z
 rw [←h]
theorem kG (l:List Nat):((l.map fun c=>(⟨#[c]⟩:Str)).map (·.length)).sum=l.length:=by
 induction l with
 |nil=>rfl
 |cons a l ih=>rw [List.map_cons,List.map_cons,List.sum_cons,ih,List.length_cons];show 1+l.length=l.length+1;omega
noncomputable def rn:V→V
 | .str y=> .bl (cL (y.cps.toList.headD 0))
 |v=>v
noncomputable def rK:V→Bool
 | .str y=>!cL (y.cps.toList.headD 0)
 |_=>false
noncomputable def qD (m:Nat):V→V
 | .int i=> .str ⟨#[48+m / 2 ^ i.toNat % 2]⟩
 |v=>v
theorem ek {a b:Nat}:((⟨#[a]⟩:Str)=⟨#[b]⟩)↔a=b:=by
 constructor
 ·intro h;simpa using h
 ·rintro rfl;rfl
theorem s0:Str.ofString "0" = ⟨#[48]⟩:=by decide+kernel
theorem s1:Str.ofString "1" = ⟨#[49]⟩:=by decide+kernel
theorem gz (m k:Nat):(m:Int) / 2 ^ k=((m / 2 ^ k:Nat):Int):=by
 rw [show (2:Int) ^ k=((2 ^ k:Nat):Int) by simp];norm_cast
theorem n_ (m:Nat):(d9 73 (-1) 74).map (qD m)=((dg m 74).map fun c=>(⟨#[c]⟩:Str)).map V.str:=by kernel_rfl
theorem rj {c:Nat}:(!(Builtin.Str.occurrences (Str.ofString "01") ⟨#[c]⟩ 0 (Str.ofString "01").length 1).isEmpty)=cL c:=by
 rw [StrLaws.found_one]
 have e:(Str.ofString "01").cps.toList= [48,49]:=by decide+kernel
 rw [e,Bool.eq_iff_iff,decide_eq_true_eq,dy]
 simp
theorem ro {x:Nat}:Builtin.bitAnd (x:Int) 1=((x % 2:Nat):Int):=by
 rw [show (1:Int)=((1:Nat):Int) from rfl,BitI.m4,Nat.and_one_is_mod]
def lC (f:Int):Prop:=0≤f∧f<18889465931478580854784
noncomputable instance {f:Int}:Decidable (lC f):=by unfold lC;infer_instance
def bq (aa:Addr):Sp:=fun vs H Q E=>match vs with
 | [.ref e,v]=>H e=some (.ext (jG e aa none))∧∀d,H d=none→Q .non (upd (upd H d (.xd [("frame",v)])) e (.ext (jG e aa (some d))))
 |_=>False
def cN:Sp:=fun vs H Q E=>match vs with
 | [.int f]=>Q (.bl (decide (lC f))) H
 |_=>False
def dk (aa:Addr):Sp:=fun vs H Q E=>match vs with
 | [.int f]=>(¬lC f→∀H' d,bw H H'→H' d=some (.xd [("frame",.int f)])→E (.ref aa) (some d) H')∧(lC f→∀H',bw H H'→Q (.str (tx f.toNat)) H')
 |_=>False
def cO (aa:Addr):Sp:=fun vs H Q E=>match vs with
 | [.str z]=>z.length≤sizeLine∧(bJ z=false→∀H' d,bw H H'→H' d=some (.xd [("frame",.str z)])→E (.ref aa) (some d) H')∧(bJ z=true→∀H',bw H H'→Q (.int (iW z:Nat)) H')
 |_=>False
def ck:Sp:=fun vs H Q E=>match vs with
 | [.int _]=>Q (.bl true) H
 |_=>False
def b9:Sp:=fun vs H Q E=>match vs with
 | [.int c]=> ∀v:Int,Q (.int v) H
 |_=>False
def cy:Sp:=fun vs H Q E=>match vs with
 | [.int n]=> ∃m:Nat,n=m∧m<2 ^ 74∧Q (.str (tx m)) H
 |_=>False
def bp:Sp:=fun vs H Q E=>match vs with
 | [.str z,.int c]=>z.length=74∧∀(r:Str) H',bw H H'→r.length≤sizeLine→Q (.str r) H'
 |_=>False
def cz:Sp:=fun vs H Q E=>match vs with
 | [.str z]=>z.length≤sizeLine∧∀H',bw H H'→Q (.bl (bJ z)) H'
 |_=>False
def bX:Sp:=fun vs H Q E=>match vs with
 | [v,.bl b]=>((b=true∧∃n,v = .int n∧¬lC n)∨(b=false∧∃z:Str,v = .str z∧z.length≤sizeLine∧bJ z=false))∧∀H',bw H H'→Q (.bl true) H'
 |_=>False
set_option compiler.extract_closed false in
local macro_rules | `(tactic| exists $es,*) => `(tactic| simp only [nU,pY,nV,rE,nR,tC,nZ,ez,nT,nj,nY,p8,p6,ng,tB,pZ,p9,rG,iu,jS,p0,q0,nX,nk,qW,ni,rH,ir,rF,iq,nh,md,oq,og,qH,qF,fw,fu,fv,ft,g0,gQ,jn,c4,jh,jg,l0,l5,lZ,l6,l7,lX,lY,je,jf,kj,j7,ki,j6,mi,lW,l8,gT,oo,om,q5,q9,lK,lJ,gg,j2,j_,ka,jP,i0,iZ,iY,i1,gN,gM,gL,i9,i8,i7,h7,ko,kn,j1,gS,f9,fz,fA,jb,pV,p4,rO,rN,kR,hW,kS,rl,pU,ir,gO,jU,Option.join_some,m8,nK,m7,pI,pz,
 L2.start,List.map_cons,List.map_nil,List.length_cons,List.length_nil,List.replicate_zero,List.replicate_succ,List.append_nil,List.nil_append,List.cons_append,List.getElem?_cons_zero,List.getElem?_cons_succ,List.set_cons_zero,List.set_cons_succ,decide_eq_true_eq,Bool.not_eq_true',decide_eq_false_iff_not,if_true,if_false,ite_true,ite_false,Bool.false_eq_true,true_and,and_true,Bool.not_true,Bool.not_false,Int.reduceLT,Int.reduceLE,Int.reducePow,Int.reduceToNat,Int.reduceAdd,Int.reduceSub,Int.reduceMul,Int.reduceNeg,Nat.reducePow,Nat.reduceLT,Nat.reduceLeDiff,true_or,or_true,Int.reduceEq,and_self,Nat.reduceAdd,Nat.reduceSub,Int.neg_neg,reduceCtorEq,not_true_eq_false,not_false_eq_true,
 bq,cN,dk,cO,ck,b9,cy,bp,cz,bX,m_,p5,pX,lI,jc,jd,i6,gK,pW,qZ,rJ,qy,qz,jT,nW,qX,Ends.un,lM,fm,jY,p7,jl,pA,pB,qE,pw,kh,j5,kf,j4,mh,lV,jz,nM,nL,jk,j9,jE,mQ,mR,kM,o3,o4,mL,gU,jR,gX,qG,gZ,gd,gR,gc,gf,ji,$[$es:term],*])
local macro_rules | `(tactic| walk_at "wps") => `(tactic| exists true_and)
section
variable {aw aa aq ah:Addr} {P:Program} {w:World} {K:PySem.W.Frag} {mg:Str→Option Value} {base:Heap}
variable (T:Txt K mg aw aa aq ah)
set_option hygiene false in
local macro_rules | `(tactic| exists 0, $a, $b, $c, $d:ident) => `(tactic| (refine ($a).fn $b $c (fun vs H Q E h => ?_) fun f cdv A outer s H vs Q E HR h => ?_; (unfold $d at h; split at h <;> first | rfl | exact h.elim); unfold $d at h; split at h; rotate_left; exact h.elim))
set_option hygiene false in
local macro_rules | `(tactic| exists 1, $a, $b, $c, $d:ident) => `(tactic| (refine ($a).fnX $b $c (fun vs H Q E h => ?_) fun f cdv A outer s H vs Q E HR h => ?_; (unfold $d at h; split at h <;> first | rfl | exact h.elim); unfold $d at h; split at h; rotate_left; exact h.elim))
include T in theorem eQ:FnAt P w K mg base (ip P w) "_law_whole" 1 ["_law_found"] ck:=by
 exists 0,T.cH,eO,eS,ck
 refine ⟨_,(ag (aQ (fG (a6 (dR K rfl) (by rfl) T.a_ bg (aH (pv 0) (aH (iE rfl T.lr pL) ar))) (fE (oF (a6 (dR K rfl) (by rfl) T.a_ bg (aH (pv 0) (aH (iE rfl T.ia mX) ar)))))))),?_⟩
 walk_at "wps"
 exact h
include T in theorem bZ:m6 P w K mg base (ip P w) aa "__init__" 1 ["self","frame"] (bq aa):=by
 exists 0,T.bI,c9,dc,bq
 rename_i e l
 refine ⟨_,(ag (ku T.cq T.aC (pv 0) (pv 1))),?_⟩
 obtain ⟨he,q⟩:=h
 exists he
 exact ⟨e,rfl,he,q⟩
include T in theorem gn:FnAt P w K mg base (ip P w) "is_frame" 1 ["number"] cN:=by
 exists 0,T.dv,fZ,gA,cN
 rename_i f
 refine ⟨_,(ag (aQ (fG (c6 nt (pv 0) ae (nomark _)) (fE (c6 (bo K rfl HR.units) (ai kD (pv 0) (g7 rfl T.bO)) ae (nomark _)))))),?_⟩
 walk_at "wps"
 replace h:Q (.bl (decide (0≤f∧f<18889465931478580854784))) H:=h
 by_cases c:0≤f
 ·
  rw [if_pos c]
  have e:decide (f / 18889465931478580854784=0)=decide (0≤f∧f<18889465931478580854784):=by
   rw [decide_eq_decide];omega
  rw [e];exact h
 ·
  rw [if_neg c]
  rw [decide_eq_false (by omega)] at h
  exact h
include T in theorem en:FnAt P w K mg base (ip P w) "_law_number" 1 ["_law_cell"] b9:=by
 exists 0,T.cp,b_,eF,b9
 rename_i c
 refine ⟨_,(ao (bc (i:=1) b_.nd rfl (Or.inl rfl) (ai ba (pv 0) ae))
 (ao (bc (i:=2) b_.nd rfl (Or.inl rfl) (ai bM (pv 0) ae))
 (av (ao (bA (aG kE (pv 1) ae (nomark _)) (ag (aQ (ai ba (ai eh (ai eh (ai eh (ai eh (pv 2) ae) ae) ae) ae) (ai c7 ae ae)))) aZ)
 (av (ao (bA (aG (bo K rfl HR.units) (pv 1) ae (nomark _)) (ag (aQ (ai ba (pv 2) ae))) aZ)
 (av (ao (bA (aG (bo K rfl HR.units) (pv 1) ae (nomark _)) (ag (aQ (ai fH (ai fH (ai c7 ae ae) ae) (ai ba (pv 2) ae)))) aZ)
 (av (ao (bA (aG (bo K rfl HR.units) (pv 1) ae (nomark _)) (ag (aQ (ai (bh K rfl) (ai c7 ae ae) (ai ba (pv 2) (ai iH ae ae))))) aZ)
 (av (ag (aQ (ai fH (kx gG ae) (ai ba (pv 2) (ai iH ae ae)))))))))))))))),?_⟩
 generalize h_u1:au _=u1
 walk_at "wps"
 have sh:jL 1 74:=cshl (by decide) (by decide) (by decide) (by decide)
 rw [←h_u1,au]
 generalize h_u2:au _=u2
 walk_at "wps"
 split
 ·exact ⟨sh,h _⟩
 rw [←h_u2,au]
 generalize h_u3:au _=u3
 walk_at "wps"
 split
 ·exact h _
 rw [←h_u3,au]
 generalize h_u4:au _=u4
 walk_at "wps"
 split
 ·exact ⟨sh,h _⟩
 rw [←h_u4,au]
 generalize h_u5:au _=u5
 walk_at "wps"
 split
 ·exact ⟨sh,h _⟩
 rw [←h_u5,au]
 walk_at "wps"
 exact h _
include T in theorem cE:FnAt P w K mg base (ip P w) "_law_text" 1 ["_law_number_here"] cy:=by
 exists 0,T.cV,b4,fQ,cy
 rename_i n
 refine ⟨_,(ao (bc (i:=1) b4.nd rfl (Or.inl rfl) cn)
 (ao (g4 PassesOwn.never rfl (js rfl T.d5 (aH ae ar)) (c5 (i:=2) b4.nd rfl (Or.inl rfl)) (ag (bc (i:=1) b4.nd rfl (Or.inl rfl) (ai (bh K rfl) (iF (mJ K rfl) cn (ai ba (ai kF (pv 0) (ai c7 ae (pv 2))) ae) (fun _ _=>rfl)) (pv 1)))))
 (ag (aQ (pv 1))))),?_⟩
 obtain ⟨m,rfl,hm,q⟩:=h
 walk_at "wps"
 refine pk (fun i σ H'=>H'=H∧∃v2:Option V,σ= [some (.int (m:Int)),some (.str ⟨(dg m i).toArray⟩),v2]) ⟨rfl,none,rfl⟩ (fun i σ H' hi hp=>?_) (fun σ H' hp=>?_)
 ·
  obtain ⟨rfl,v2,rfl⟩:=hp
  walk_at "wps"
  have ei:(0+(i:Int)).toNat=i:=by omega
  have bi:m / 2 ^ i % 2=0∨m / 2 ^ i % 2=1:=Nat.mod_two_eq_zero_or_one _
  rw [ei,Int.one_mul]
  have hp:(0:Int)<2 ^ i:=by exact Int.pow_pos (by decide)
  have hb:(2:Nat) ^ i≤2 ^ 74:=Nat.pow_le_pow_right (by decide) (by omega)
  refine ⟨cshl (by omega) (by omega) (by decide) (by decide),⟨hp,?_⟩,?_⟩
  ·
   rw [show (2:Int) ^ i=((2 ^ i:Nat):Int) by simp]
   exact (Bd.c (n:=75) (Nat.lt_of_le_of_lt hb (by decide))).up (by decide)
  rw [gz,show ((m / 2 ^ i:Nat):Int) % 2=((m / 2 ^ i % 2:Nat):Int) by norm_cast,gb]
  refine ⟨48+m / 2 ^ i % 2,a8 (by decide),?_,?_⟩
  ·rcases bi with e|e<;>rw [e]<;>decide+kernel
  rw [c4]
  refine ⟨a8 (by show 1+(dg m i).toArray.size≤1000;rw [List.size_toArray,dO];omega),rfl,some (.int (0+(i:Int))),?_⟩
  rw [show (⟨#[48+m / 2 ^ i % 2]⟩:Str)++⟨(dg m i).toArray⟩=⟨(dg m (i+1)).toArray⟩ by show (⟨#[48+m / 2 ^ i % 2]++(dg m i).toArray⟩:Str)=_;rw [dg];simp]
 ·
  obtain ⟨rfl,v2,rfl⟩:=hp
  walk_at "wps"
  exact q
include T in theorem dr:FnAt P w K mg base (ip P w) "bits_of" 3 ["frame"] (dk aa):=by
 exists 1,T.dP,gP,h_,dk
 rename_i f
 refine ⟨_,(ao (bA (PT.nox (cC (d_ (bG (gn T) HR (by decide) rfl (aH (pv 0) ar))))) (ag (ee T.cq (bZ T) T.cG HR (by decide) nq rfl rfl rfl (aH (pv 0) ar))) aZ)
 (ag (PS.nox (aQ (kB K rfl PySem.F.plainAttrs_str PySem.F.slot_str_join PySem.F.type_str_join (kI K rfl) cn (aH (fF (N:=(["shift","frame"]:List Str)) (nv:=1) (ix:=[0]) rfl (lb (by kernel_rfl)) (jr rfl T.d5 (aH (ai fH (g7 rfl T.bO) ae) (aH (kx gG ae) (aH (kx gG ae) ar)))) (fun _ _ _ _ _=>(c5 (i:=0) (show ((["shift","frame"]:List Str)).Nodup by decide) rfl (Or.inl rfl))) (fun _ _ _ _ _=>iD) (fun _ _ _ _ _=>(gj (aG (bo K rfl HR.units) (ai oO (ai kD (pv 1) (pv 0)) ae) ae (nomark _)) cn cn))) ar)))))),?_⟩
 obtain ⟨qb,qg⟩:=h
 walk_at "wps"
 by_cases c0:lC f
 rotate_left
 ·
  rw [if_pos c0]
  intro e he
  refine ⟨ak,fun d hd=>⟨_,ak,?_⟩⟩
  obtain ⟨s1,s2⟩:=dropx (C:=aa) (f:="frame") (v:= .int f) (bw.refl _) he hd
  exact qb c0 _ d s1 s2
 rw [if_neg (not_not_intro c0)]
 replace qg:=qg c0
 obtain ⟨m,rfl⟩: ∃m:Nat,f=(m:Int):=⟨f.toNat,by have:=c0.1;omega⟩
 rw [Int.toNat_natCast] at qg
 refine ⟨⟨by decide,by decide+kernel,by decide+kernel,by decide+kernel⟩,?_⟩
 rw [show rcount 73 (-1) (-1)=74 by decide+kernel]
 refine mV (f:=qD m) (a8 (by decide)) (fun i hi Q' q'=>q') (fun i hi Q' q'=>?_) ?_
 ·
  replace q':Q' (.str ⟨#[48+m / 2 ^ (73+(i:Int) * -1).toNat % 2]⟩) H:=q'
  walk_at "wps"
  refine ⟨by omega,?_⟩
  rw [gz,ro]
  generalize m / 2 ^ (73+(i:Int) * -1).toNat=y at*
  rcases Nat.mod_two_eq_zero_or_one y with e|e
  ·
   rw [e] at q'⊢
   rw [if_neg (by decide),s0];exact q'
  ·
   rw [e] at q'⊢
   rw [if_pos (by decide),s1];exact q'
 ·
  rw [n_]
  refine ⟨a8 (by rw [List.length_map,List.length_map,dO];decide),fun l hl=>⟨_,bP.of ak,?_,?_⟩⟩
  ·rw [kG,List.length_map,dO];decide
  ·rw [mH];exact qg _ (bz hl)
include T in theorem cS:FnAt P w K mg base (ip P w) "frame_of" 3 ["text"] (cO aa):=by
 exists 1,T.dw,cj,gB,cO
 rename_i z
 refine ⟨_,(ao (bA (PT.nox (PW.pt (pw_or (aG (cD K rfl HR.units) (a6 (cw K rfl) (by rfl) T.eG eE (aH (pv 0) ar)) (g7 rfl T.bO) (nomark _)) (pw_or1 (cC (d_ (a6 (jJ K rfl rfl) (by rfl) T.lu pM (aH (fF (N:=(["sign"]:List Str)) (nv:=1) (ix:=[]) rfl (lb (by kernel_rfl)) (d3 K rfl (pv 0)) (fun _ _ _ _ _=>(c5 (i:=0) (show ((["sign"]:List Str)).Nodup by decide) rfl (Or.inl rfl))) (fun _ _ _ _ _=>iD) (fun _ _ _ _ _=>(c6 (oJ K rfl) (pv 0) cn (mF rfl)))) ar)))))))) (ag (ee T.cq (bZ T) T.cG HR (by decide) nq rfl rfl rfl (aH (pv 0) ar))) aZ)
 (av (ao (PS.nox (bc (i:=1) cj.nd rfl (Or.inl rfl) ae))
 (av (ao (PS.nox (g4 PassesOwn.never rfl (d3 K rfl (pv 0)) (c5 (i:=2) cj.nd rfl (Or.inl rfl)) (ag (bc (i:=1) cj.nd rfl (Or.inl rfl) (ai (bh K rfl) (ai eh (pv 1) ae) (gj (aG (bo K rfl HR.units) (pv 2) cn (nomark _)) ae ae))))))
 (ag (PS.nox (aQ (pv 1))))))))),?_⟩
 obtain ⟨hz,qb,qg⟩:=h
 generalize h_u1:au _=u1
 walk_at "wps"
 refine ⟨hz,?_⟩
 by_cases c1:z.length=74
 rotate_left
 ·
  rw [if_pos (by omega)]
  intro e he
  refine ⟨ak,fun d hd=>⟨_,ak,?_⟩⟩
  obtain ⟨s1,s2⟩:=dropx (C:=aa) (f:="frame") (v:= .str z) (bw.refl _) he hd
  exact qb (by unfold bJ;rw [decide_eq_false c1];rfl) _ d s1 s2
 rw [if_neg (by omega)]
 refine lh (p:=fun _=>true) (f:=rn) hz (fun x _ Q h=>h) (fun x hx _ Q' h'=>?_) ?_
 ·
  obtain ⟨n,_,rfl⟩:=List.mem_map.mp hx
  walk_at "wps"
  rw [rj]
  exact h'
 have e3:((bD z).filter fun _=>true)=bD z:=List.filter_eq_self.mpr fun _ _=>rfl
 have e4:(bD z).length=z.length:=by simp [bD,Str.length]
 rw [e3]
 refine ⟨by rw [List.length_map,e4];exact hz,fun l hl=>⟨z.cps.toList.map cL,bP.of ?_,?_⟩⟩
 ·
  rw [ak,bD,List.map_map,List.map_map]
  rfl
 have eg:(z.cps.toList.map cL).all id=bJ z:=by
  unfold bJ
  rw [decide_eq_true c1,Bool.true_and,List.all_map]
  rfl
 rw [eg]
 have sl:=bz (o:= .lst ((bD z).map rn)) hl
 generalize upd H l (.lst ((bD z).map rn))=H1 at*
 cases cg:bJ z with
 |false=>
  rw [if_pos rfl]
  intro e he
  refine ⟨ak,fun d hd=>⟨_,ak,?_⟩⟩
  obtain ⟨s1,s2⟩:=dropx (C:=aa) (f:="frame") (v:= .str z) sl he hd
  exact qb cg _ d s1 s2
 |true=>
  rw [if_neg (by decide)]
  rw [←h_u1,au]
  generalize h_u2:au _=u2
  walk_at "wps"
  rw [←h_u2,au]
  walk_at "wps"
  refine pj (fun i σ H'=>H'=H1∧∃v2:Option V,σ= [some (.str z),some (.int (vl (z.cps.toList.take i):Nat)),v2]) ⟨rfl,none,rfl⟩ (fun i c σ H' hc hp=>?_) (fun σ H' hp=>?_)
  ·
   obtain ⟨rfl,v2,rfl⟩:=hp
   walk_at "wps"
   have tk:z.cps.toList.take (i+1)=z.cps.toList.take i++ [c]:=by
    rw [List.take_succ,Array.getElem?_toList,hc];rfl
   rw [tk,nN]
   rw [s1]
   by_cases e:c=49
   ·
    rw [if_pos (ek.mpr e),show bt c=1 by rw [e];rfl]
    exact ⟨some (.str ⟨#[c]⟩),by norm_cast⟩
   ·
    rw [if_neg fun h=>e (ek.mp h),show bt c=0 by unfold bt;rw [if_neg e]]
    exact ⟨some (.str ⟨#[c]⟩),by norm_cast⟩
  ·
   obtain ⟨rfl,v2,rfl⟩:=hp
   walk_at "wps"
   rw [←Array.length_toList,List.take_length]
   exact qg cg _ sl
include T in theorem fJ:FnAt P w K mg base (ip P w) "_law_good" 1 ["_law_text_here"] cz:=by
 exists 0,T.cW,fq,fR,cz
 rename_i z
 refine ⟨_,(ag (aQ (fG (c6 (bo K rfl HR.units) (a6 (cw K rfl) (by rfl) T.eG eE (aH (pv 0) ar)) ae (nomark _)) (fE (c6 (bo K rfl HR.units) (fF (N:=(["_law_sign"]:List Str)) (nv:=1) (ix:=[]) rfl (lb (by kernel_rfl)) (d3 K rfl (pv 0)) (fun _ _ _ _ _=>(c5 (i:=0) (show ((["_law_sign"]:List Str)).Nodup by decide) rfl (Or.inl rfl))) (fun _ _ _ _ _=>(mm (PW.pt (pw_and (aG (cD K rfl HR.units) (pv 0) cn (nomark _)) (pw_and1 (aG (cD K rfl HR.units) (pv 0) cn (nomark _))))))) (fun _ _ _ _ _=>(pv 0))) (g6 ar) (nomark _)))))),?_⟩
 obtain ⟨hz,q⟩:=h
 walk_at "wps"
 refine ⟨hz,?_⟩
 by_cases c1:z.length=74
 rotate_left
 ·
  rw [if_neg (by omega)]
  have:=q _ (bw.refl _)
  rwa [show bJ z=false by unfold bJ;rw [decide_eq_false c1];rfl] at this
 rw [if_pos (by omega)]
 refine lh (p:=rK) (f:=fun v=>v) hz (fun x hx Q' h'=>?_) (fun x hx _ Q' h'=>?_) ?_
 ·
  obtain ⟨n,_,rfl⟩:=List.mem_map.mp hx
  replace h':Q' (!cL n) H:=h'
  walk_at "wps"
  rw [s0,s1]
  by_cases e0:n=48
  ·
   rw [if_neg (not_not_intro (ek.mpr e0))]
   rwa [show cL n=true from dy.mpr (.inl e0)] at h'
  rw [if_pos fun h=>e0 (ek.mp h)]
  rwa [show (decide ((⟨#[n]⟩:Str)=⟨#[49]⟩))=cL n by rw [Bool.eq_iff_iff,decide_eq_true_eq,ek,dy];omega]
 ·
  walk_at "wps"
  exact h'
 rw [List.map_id']
 have e5:(bD z).filter rK=(z.cps.toList.filter fun c=>!cL c).map fun c=>V.str ⟨#[c]⟩:=by
  unfold bD
  rw [List.filter_map];rfl
 rw [e5]
 have el:(z.cps.toList.filter fun c=>!cL c).length≤z.length:=by
  have:=List.length_filter_le (fun c=>!cL c) z.cps.toList
  rwa [Array.length_toList] at this
 have eg:((z.cps.toList.filter fun c=>!cL c)= [])↔bJ z=true:=by
  unfold bJ
  rw [decide_eq_true c1,Bool.true_and,List.all_eq_true,List.filter_eq_nil_iff]
  simp
 refine ⟨by rw [List.length_map];omega,fun l hl p hp=>?_⟩
 generalize z.cps.toList.filter (fun c=>!cL c)=cs at*
 have S2:=(bz (o:= .lst (cs.map fun c=>V.str ⟨#[c]⟩)) hl).trans (bz (o:= .lst []) hp)
 have hl2:upd (upd H l (.lst (cs.map fun c=>V.str ⟨#[c]⟩))) p (.lst []) l=some (.lst (cs.map fun c=>V.str ⟨#[c]⟩)):=fi ak hp
 have hp2:=ak (H:=upd H l (.lst (cs.map fun c=>V.str ⟨#[c]⟩))) (a:=p) (o:= .lst [])
 generalize upd (upd H l (.lst (cs.map fun c=>V.str ⟨#[c]⟩))) p (.lst [])=H2 at*
 have pr: ∀l:List Nat,Paired (Dn K H2 0) (l.map fun c=>V.str ⟨#[c]⟩) (l.map fun c=>Dt.str ⟨#[c]⟩):=fun l=>by
  induction l with
  |nil=>exact .nil
  |cons a l ih=>exact .cons pF ih
 refine ⟨1,_,_,by decide,k7 hl2 (pr cs),k7 hp2 .nil,?_⟩
 cases cg:bJ z with
 |true=>
  rw [eg.mpr cg]
  refine .inl ⟨rfl,?_⟩
  have:=q _ S2;rwa [cg] at this
 |false=>
  refine .inr ⟨fun h=>?_,?_⟩
  ·
   have:cs= []:=by simpa using Dt.l.inj h
   rw [eg.mp this] at cg;cases cg
  ·have:=q _ S2;rwa [cg] at this
include T in theorem c_:FnAt P w K mg base (ip P w) "_law_text_spoilt" 1 ["_law_text_here","_law_cell"] bp:=by
 exists 0,T.bH,br,da,bp
 rename_i z c
 refine ⟨_,(mn (i:=2) (k:=3) (vs:=[.tok "2",.tok " ",.tok "o",.tok "-",.tok "00",.tok "10",.tok "+",.tok "_",.tok "a",.tok "",.tok "\n",.tok "O",.tok "l"]) br.nd rfl (Or.inl rfl) (pR.op ba (qp bM (pv 1)) (a6 (cw K rfl) (by rfl) T.eG eE (aH (pv 0) ar))) rfl (Or.inl rfl) (Eq.refl _) (by decide)
 (av (ao (bc (i:=4) br.nd rfl (Or.inl rfl) (iF (mJ K rfl) (pv 3) (ai ba (ai bM (pv 1) ae) ae) (fun _ _=>rfl)))
 (av (ao (bA (aG (bo K rfl HR.units) (ai ba (pv 1) ae) ae (nomark _)) (ag (aQ (ai (bh K rfl) (bB (eM K rfl) (pv 0) bU (bT (pv 2))) (bB (eM K rfl) (pv 0) (bT (ai (bh K rfl) (pv 2) ae)) bU)))) aZ)
 (av (ao (bA (aG (bo K rfl HR.units) (ai ba (pv 1) ae) ae (nomark _)) (ag (aQ (ai (bh K rfl) (ai (bh K rfl) (bB (eM K rfl) (pv 0) bU (bT (pv 2))) (iF (mJ K rfl) cn (ai ba (ai bM (pv 1) ae) ae) (fun _ _=>rfl))) (bB (eM K rfl) (pv 0) (bT (pv 2)) bU)))) aZ)
 (av (ao (bA (aG kE (ai ba (pv 1) ae) ae (nomark _)) (ag (aQ (ai (bh K rfl) (ai (bh K rfl) (bB (eM K rfl) (pv 0) bU (bT (pv 2))) (fB (pv 4))) (bB (eM K rfl) (pv 0) (bT (ai (bh K rfl) (pv 2) ae)) bU)))) aZ)
 (av (ao (bA (aG (bo K rfl HR.units) (ai ba (pv 1) ae) ae (nomark _)) (ag (aQ (iF (mJ K rfl) (g6 (aH (bB (eM K rfl) (pv 0) bU (bT (ai ba (ai bM (pv 1) ae) ae))) (aH (ai (bh K rfl) (ai mz (pv 0) (ai (bh K rfl) ae (ai ba (ai bM (pv 1) ae) ae))) (bB (eM K rfl) (pv 0) bU (bT (pv 2)))) ar))) (ai ba (ai bM (pv 1) ae) ae) (fun _ _=>rfl)))) aZ)
 (av (ao (bA (aG (bo K rfl HR.units) (ai ba (ai bM (pv 1) ae) ae) ae (nomark _)) (ag (aQ (kB K rfl PySem.F.plainAttrs_str PySem.F.slot_str_replace PySem.F.type_str_replace (gp rfl T.unb) (pv 0) (aH (oH (ai ba (ai bM (pv 1) ae) ae) (fun _ _=>rfl)) (aH (pv 4) ar))))) aZ)
 (av (ag (aQ (ai (bh K rfl) (fB (pv 4)) (bB (eM K rfl) (pv 0) (bT (a6 (cw K rfl) (by rfl) T.eG eE (aH (fB (pv 4)) ar))) bU)))))))))))))))))),?_⟩
 obtain ⟨hz,q⟩:=h
 generalize h_u1:au _=u1
 walk_at "wps"
 rw [hz]
 refine ⟨a8 (by decide),by decide,fun p hp=>?_⟩
 have s1:=bz (o:= .lst [V.tok "2",V.tok " ",V.tok "o",V.tok "-",V.tok "00",V.tok "10",V.tok "+",V.tok "_",V.tok "a",V.tok "",V.tok "\n",V.tok "O",V.tok "l"]) hp
 have e1:=ak (H:=H) (a:=p) (o:= .lst [V.tok "2",V.tok " ",V.tok "o",V.tok "-",V.tok "00",V.tok "10",V.tok "+",V.tok "_",V.tok "a",V.tok "",V.tok "\n",V.tok "O",V.tok "l"])
 generalize upd H p (.lst [V.tok "2",V.tok " ",V.tok "o",V.tok "-",V.tok "00",V.tok "10",V.tok "+",V.tok "_",V.tok "a",V.tok "",V.tok "\n",V.tok "O",V.tok "l"])=H1 at*
 rw [←h_u1,au]
 generalize h_u2:au _=u2
 walk_at "wps"
 refine gu (bP.of e1) (by omega) (by show c / 480 % 13<13;omega) fun y hy=>?_
 obtain ⟨sg,rfl,hsg⟩: ∃sg:Str,y = .tok sg∧sg.length≤2:=by
  simp only [List.mem_cons,List.not_mem_nil,or_false] at hy
  rcases hy with rfl|rfl|rfl|rfl|rfl|rfl|rfl|rfl|rfl|rfl|rfl|rfl|rfl<;>exact ⟨_,rfl,by decide⟩
 have at0:0≤c / 6 % ((74:Nat):Int)∧c / 6 % ((74:Nat):Int)<74:=by omega
 generalize c / 6 % ((74:Nat):Int)=at' at*
 have sl: ∀lo hi,(Txt.slice z lo hi).length≤74:=fun lo hi=>by
  unfold Txt.slice
  split
  ·omega
  ·
   have:=sliceIndices_le lo hi z.length
   show (List.toArray _).size≤74
   rw [List.size_toArray]
   refine Nat.le_trans (List.length_filterMap_le _ _) ?_
   omega
 have fin: ∀r:Str,r.length≤sizeLine→Q (.str r) H1:=fun r hr=>q r _ s1 hr
 have zs:z.length≤sizeLine:=by rw [hz];exact a8 (by decide)
 have ap: ∀a b:Str,a.length≤400→b.length≤200→a.length+b.length≤sizeLine∧(a++b).length≤sizeLine:=fun a b ha hb=>by rw [Str.length_append];exact ⟨a8 (by omega),a8 (by omega)⟩
 have sm: ∀lo hi,(Txt.slice z lo hi).length≤200:=fun lo hi=>Nat.le_trans (sl lo hi) (by decide)
 have sm4: ∀lo hi,(Txt.slice z lo hi).length≤400:=fun lo hi=>Nat.le_trans (sl lo hi) (by decide)
 rw [←h_u2,au]
 generalize h_u3:au _=u3
 walk_at "wps"
 split
 ·
  have:=ap _ _ (sm4 none (some at')) (sm (some (at'+1)) none)
  exact ⟨zs,zs,this.1,fin _ this.2⟩
 have a01: ∀k:Int,0≤k→k<2→∃d,jK (Str.ofString "01").cps.toList k=some d:=fun k h0 h1=>by
  rcases (show k=0∨k=1 by omega) with rfl|rfl
  ·exact ⟨48,by decide+kernel⟩
  ·exact ⟨49,by decide+kernel⟩
 have z01:(Str.ofString "01").length≤sizeLine:=a8 (by decide)
 rw [←h_u3,au]
 generalize h_u4:au _=u4
 walk_at "wps"
 split
 ·
  obtain ⟨d,hd⟩:=a01 (c / 480 % 2) (by omega) (by omega)
  refine ⟨zs,?_⟩
  rw [gb]
  have t1:=ap (Txt.slice z none (some at')) ⟨#[d]⟩ (sm4 _ _) (by show 1≤200;decide)
  have t2:=ap (Txt.slice z none (some at')++⟨#[d]⟩) (Txt.slice z (some at') none) (by rw [Str.length_append];have:=sm none (some at');show _+1≤400;omega) (sm _ _)
  refine ⟨d,z01,hd,?_⟩
  rw [c4]
  refine ⟨t1.1,zs,?_⟩
  rw [c4]
  exact ⟨t2.1,fin _ t2.2⟩
 rw [←h_u4,au]
 generalize h_u5:au _=u5
 walk_at "wps"
 split
 ·
  have t1:=ap (Txt.slice z none (some at')) sg (sm4 _ _) (by omega)
  have t2:=ap (Txt.slice z none (some at')++sg) (Txt.slice z (some (at'+1)) none) (by rw [Str.length_append];have:=sm none (some at');omega) (sm _ _)
  exact ⟨zs,t1.1,zs,t2.1,fin _ t2.2⟩
 rw [←h_u5,au]
 generalize h_u6:au _=u6
 walk_at "wps"
 split
 ·
  refine ⟨zs,⟨by omega,by omega⟩,⟨by omega,by omega⟩,fun r hr=>?_⟩
  have hr4:r.length≤400:=by
   rw [hr,hz]
   omega
  have t1:=ap r (Txt.slice z none (some at')) hr4 (sm _ _)
  refine ⟨zs,t1.1,fun p2 hp2=>?_⟩
  refine gu (bP.of ak) (by omega) (by show c / 444 % 2<2;omega) fun y hy=>?_
  simp only [List.mem_cons,List.not_mem_nil,or_false] at hy
  rcases hy with rfl|rfl
  ·exact q _ _ (s1.trans (bz hp2)) (a8 (Nat.le_trans (sl _ _) (by decide)))
  ·exact q _ _ (s1.trans (bz hp2)) t1.2
 rw [←h_u6,au]
 generalize h_u7:au _=u7
 walk_at "wps"
 split
 ·
  obtain ⟨d,hd⟩:=a01 (c / 6 % 2) (by omega) (by omega)
  exact ⟨_,d,rfl,z01,hd,by rw [hz];omega,fin⟩
 rw [←h_u7,au]
 walk_at "wps"
 have t1:=ap sg (Txt.slice z (some (sg.length:Int)) none) (by omega) (sm _ _)
 exact ⟨a8 (by omega),zs,t1.1,fin _ t1.2⟩
include T in theorem bY:FnAt P w K mg base (ip P w) "_law_refused" 4 ["_law_what","_law_is_number"] bX:=by
 exists 0,T.cc,bC,dX,bX
 rename_i v b
 refine ⟨_,(ao (bc (i:=2) bC.nd rfl (Or.inl rfl) oG)
 (av (ao (oy (fun _ _ _=>(ag (bA (d_ (pv 1)) (ag (gi (kz (dr T) HR (by decide) rfl (gk rfl) (aH (pv 0) ar)))) (ag (gi (kz (cS T) HR (by decide) rfl (gk rfl) (aH (pv 0) ar))))))) (mv (i:=3) rfl T.cx rfl bC.nd rfl rfl (fun _=>(ag (bc (i:=2) bC.nd rfl (Or.inl rfl) (pv 3)))) oB))
 (av (ao (bA (PW.pt (pw_or (cC (d_ (a6 (e_ K rfl) (by rfl) T.a_ bg (aH (pv 2) (aH (g8 T.dj rfl) ar))))) (pw_or1 (d_ (a6 (h9 K rfl) (by rfl) T.a_ bg (aH (pv 2) (aH (oE (aH (g8 T.di rfl) (aH (g8 T.dG rfl) ar))) ar))))))) (ag (aQ df)) aZ)
 (av (ag (aQ (fG (a6 (e_ K rfl) (by rfl) T.a_ bg (aH (pv 2) (aH (iE rfl T.cI eR) ar))) (fE (c6 (bo K rfl HR.units) (ky K rfl (pv 2) rfl) (pv 0) (nomark _)))))))))))),?_⟩
 obtain ⟨hv,q⟩:=h
 generalize h_u1:au _=u1
 walk_at "wps"
 rw [←h_u1,au]
 generalize h_u2:au _=u2
 exists T.b8,T.aC,T.bS,T.az,T.aB,T.aL,T.aP,T.aU,T.aY,T.aK,T.aO,T.cv,T.a3,T.b5,T.aD,T.aF,T.aS,T.aW,T.a5,T.a7,T.aR,T.aV,T.b7,T.a4,T.bR,T.ay,T.aA,T.aJ,T.aN,T.aT,T.aX,T.aI,T.aM
 have fin: ∀(H':Hp) (d ea:Addr) (x:V),(x=v)→(∃n,v = .int n)∨(∃z,v = .str z)→bw H H'→H' d=some (.xd [("frame",x)])→H' ea=none→u2 {nx:=fun x H'=>Q V.non H',rt:=Q} [some v,some (V.bl b),some (V.ref ea),none] (upd H' ea (.ext (cK ea (.ref aa) (some d)))):=by
  rintro H1 d ea x rfl hk S1 hd hea
  have hd1:upd H1 ea (.ext (cK ea (.ref aa) (some d))) d=some (.xd [("frame",x)]):=fi hd hea
  have he1:=ak (H:=H1) (a:=ea) (o:= .ext (cK ea (.ref aa) (some d)))
  replace S1:=S1.trans (bz (o:= .ext (cK ea (.ref aa) (some d))) hea)
  generalize upd H1 ea (.ext (cK ea (.ref aa) (some d)))=H2 at*
  rw [←h_u2,au]
  generalize h_u3:au _=u3
  exists he1,hd1,T.b8,T.aC,T.bS,T.az,T.aB,T.aL,T.aP,T.aU,T.aY,T.aK,T.aO,T.cv,T.a3,T.b5,T.aD,T.aF,T.aS,T.aW,T.a5,T.a7,T.aR,T.aV,T.b7,T.a4,T.bR,T.ay,T.aA,T.aJ,T.aN,T.aT,T.aX,T.aI,T.aM
  intro pt n_pt
  have e_pt:=ak (H:=H2) (a:=pt) (o:=(.tup [.ref ah,.ref aq]))
  have s_pt:=bz (H:=H2) (o:=(.tup [.ref ah,.ref aq])) n_pt
  replace he1:=s_pt _ _ he1
  replace hd1:=s_pt _ _ hd1
  replace S1:=S1.trans s_pt
  generalize upd H2 pt ((.tup [.ref ah,.ref aq]))=H3 at*
  exists he1,hd1,e_pt,T.b8,T.aC,T.bS,T.az,T.aB,T.aL,T.aP,T.aU,T.aY,T.aK,T.aO,T.cv,T.a3,T.b5,T.aD,T.aF,T.aS,T.aW,T.a5,T.a7,T.aR,T.aV,T.b7,T.a4,T.bR,T.ay,T.aA,T.aJ,T.aN,T.aT,T.aX,T.aI,T.aM
  rw [←h_u3,au]
  exists he1,hd1,T.b8,T.aC,T.bS,T.az,T.aB,T.aL,T.aP,T.aU,T.aY,T.aK,T.aO,T.cv,T.a3,T.b5,T.aD,T.aF,T.aS,T.aW,T.a5,T.a7,T.aR,T.aV,T.b7,T.a4,T.bR,T.ay,T.aA,T.aJ,T.aN,T.aT,T.aX,T.aI,T.aM
  refine ⟨_,rfl,?_⟩
  rcases hk with ⟨n,rfl⟩|⟨z,rfl⟩
  ·
   walk_at "wps"
   simpa using q _ S1
  ·
   walk_at "wps"
   simpa using q _ S1
 rcases hv with ⟨rfl,n,rfl,hn⟩|⟨rfl,z,rfl,hz,hg⟩
 ·
  rw [if_pos rfl]
  exact ⟨fun _ H1 d S1 hd ea hea=>fin H1 d ea _ rfl (.inl ⟨_,rfl⟩) S1 hd hea,fun h=>absurd h hn⟩
 ·
  rw [if_neg (by decide)]
  exact ⟨hz,fun _ H1 d S1 hd ea hea=>fin H1 d ea _ rfl (.inr ⟨_,rfl⟩) S1 hd hea,fun h=>by rw [hg] at h;cases h⟩
theorem oU (T:Txt K mg aw aa aq ah):FnAt P w K mg base pT "law" 5 ["_law_script"] (eY K):=by
 refine T.iS.fn cP lp (fun vs H Q E h=>?_) fun f cdv A outer s H vs Q E HR h=>?_
 ·unfold eY at h;split at h<;>first|rfl|exact h.elim
 ·
  unfold eY at h
  split at h
  ·
   rename_i a
   obtain ⟨ns,hS,hl,_,q⟩:=h
   refine ⟨_,(qU.h (kr ⟨(g4 PassesOwn.never rfl (d3 K rfl (ai (bh K rfl) (g6 (aH (a6 (cw K rfl) (by rfl) T.eG eE (aH (pv 0) ar)) ar)) (bB (eM K rfl) (pv 0) bU (bT ae)))) (c5 (i:=1) cP.nd rfl (Or.inl rfl)) (ao (bc (i:=2) cP.nd rfl (Or.inl rfl) (bG (en T) HR (by decide) rfl (aH (pv 1) ar)))
 (av (mq (bA (PW.pt (pw_or (aG kE (pv 2) ae (nomark _)) (pw_or1 (aG nt (pv 2) (ai c7 ae ae) (nomark _))))) (ag (bA (PW.pt (pw_or (cC (d_ (bG (bY T) HR (by decide) rfl (aH (pv 2) (aH df ar))))) (pw_or1 (cC (d_ (bG (bY T) HR (by decide) rfl (aH (pv 2) (aH df ar)))))))) (ag (aQ df)) aZ)) (ao (bc (i:=3) cP.nd rfl (Or.inl rfl) (bG (cE T) HR (by decide) rfl (aH (pv 2) ar)))
 (av (ao (bc (i:=4) cP.nd rfl (Or.inl rfl) (bG (dr T) HR (by decide) rfl (aH (pv 2) ar)))
 (av (ao (bA (PW.pt (pw_or (cC (d_ (a6 (dR K rfl) (by rfl) T.a_ bg (aH (pv 4) (aH (iE rfl T.lq pK) ar))))) (pw_or1 (aG (cD K rfl HR.units) (pv 4) (pv 3) (nomark _))))) (ag (aQ df)) aZ)
 (av (ao (bc (i:=5) cP.nd rfl (Or.inl rfl) (bG (cS T) HR (by decide) rfl (aH (pv 3) ar)))
 (av (ag (bA (PW.pt (pw_or (cC (d_ (bG (eQ T) HR (by decide) rfl (aH (pv 5) ar)))) (pw_or (aG (cD K rfl HR.units) (pv 5) (pv 2) (nomark _)) (pw_or1 (aG (cD K rfl HR.units) (bG (dr T) HR (by decide) rfl (aH (pv 2) ar)) (pv 3) (nomark _)))))) (ag (aQ df)) aZ)))))))))))
 (av (ao (bc (i:=3) cP.nd rfl (Or.inl rfl) (bG (cE T) HR (by decide) rfl (aH (ai ba (pv 2) (ai c7 ae ae)) ar)))
 (av (ao (bA (aG qs (ai ba (ai bM (pv 1) ae) ae) ae (nomark _)) (ag (bc (i:=3) cP.nd rfl (Or.inl rfl) (bG (c_ T) HR (by decide) rfl (aH (pv 3) (aH (ai bM (pv 1) ae) ar))))) aZ)
 (av (ag (bA (cC (d_ (bG (fJ T) HR (by decide) rfl (aH (pv 3) ar)))) (ag (bA (cC (d_ (bG (bY T) HR (by decide) rfl (aH (pv 3) (aH df ar))))) (ag (aQ df)) aZ)) (ag (bA (aG (cD K rfl HR.units) (bG (cE T) HR (by decide) rfl (aH (bG (cS T) HR (by decide) rfl (aH (pv 3) ar)) ar)) (pv 3) (nomark _)) (ag (aQ df)) aZ)))))))))))))⟩
 (ml ⟨(aQ df)⟩))),?_⟩
   walk_at "wps"
   refine ⟨_,.inl hS,?_⟩
   rw [List.length_map]
   intro p hp
   refine ja (jV (bz hp) hS) fun p2 hp2=>?_
   refine ic (fi ak hp2) ak ?_ fun p3 hp3=>?_
   ·
    rw [show dQ (ns.map V.int) none (some 10)=(ns.take 10).map V.int from k_ (n:=10),List.length_map]
    have:=jO ns 10
    exact a8 (by simp only [List.length_cons,List.length_nil];omega)
   rw [show dQ (ns.map V.int) none (some 10)=(ns.take 10).map V.int from k_ (n:=10)]
   generalize hH3:upd (upd (upd H p (.lst [.int (ns.length:Int)])) p2 (.lst ((ns.take 10).map V.int))) p3 (.lst ([.int (ns.length:Int)]++(ns.take 10).map V.int))=H3
   have hl3:H3 p3=some (.lst (((ns.length:Int)::ns.take 10).map V.int)):=by rw [←hH3];exact ak
   clear hH3
   refine mS (xs:=((ns.length:Int)::ns.take 10).map V.int) (bP.of hl3) (fun _ σ H'=>bw H3 H'∧∃v1 v2 v3 v4 v5,σ= [some (.ref a),v1,v2,v3,v4,v5]) ⟨bw.refl _,_,_,_,_,_,rfl⟩ (fun i σ H' _ hp=>bP.of (hp.1 _ _ hl3)) (fun i x σ H' hx hp=>?_) (fun σ H' hp=>?_)
   ·
    obtain ⟨sm,v1,v2,v3,v4,v5,rfl⟩:=hp
    obtain ⟨c,rfl,_⟩:=gq hx
    have sh:jL 1 74:=cshl (by decide) (by decide) (by decide) (by decide)
    generalize h_u1:au _=u1
    walk_at "wps"
    intro n
    rw [←h_u1,au]
    generalize h_u2:au _=u2
    generalize h_u3:au _=u3
    refine ⟨fun σ H9=>bw H' H9∧∃v3 v4 v5,σ= [some (.ref a),some (.int c),some (.int n),v3,v4,v5],?_,?_⟩
    ·
     walk_at "wps"
     by_cases c0:lC n
     ·
      obtain ⟨n0,n1⟩:=c0
      rw [if_neg (by omega)]
      refine ⟨sh,?_⟩
      rw [if_neg (by omega)]
      obtain ⟨m,rfl⟩: ∃m:Nat,n=(m:Int):=⟨n.toNat,by omega⟩
      have hm:m<2 ^ 74:=by omega
      refine ⟨m,rfl,hm,?_⟩
      rw [←h_u2,au]
      generalize h_u4:au _=u4
      walk_at "wps"
      refine ⟨fun h=>absurd ⟨n0,n1⟩ h,fun _ H5 S5=>?_⟩
      rw [Int.toNat_natCast]
      rw [←h_u4,au]
      generalize h_u6:au _=u6
      walk_at "wps"
      rw [←h_u6,au]
      generalize h_u7:au _=u7
      walk_at "wps"
      refine ⟨by rw [fj];exact a8 (by decide),(fun h=>by rw [mP] at h;cases h),fun _ H6 S6=>?_⟩
      rw [nO hm]
      rw [←h_u7,au]
      walk_at "wps"
      refine ⟨fun h=>absurd ⟨n0,n1⟩ h,fun _ H7 S7=>?_⟩
      rw [Int.toNat_natCast]
      walk_at "wps"
      exact ⟨(S5.trans S6).trans S7,_,_,_,rfl⟩
     ·have r:(¬lC n∨False∧∃z:Str,False∧z.length≤sizeLine∧bJ z=false)∧∀(H1:Hp),bw H' H1→(¬lC n∨False∧∃z:Str,False∧z.length≤sizeLine∧bJ z=false)∧∀(H2:Hp),bw H1 H2→bw H' H2∧∃w3 w4 w5,[some (V.ref a),some (V.int c),some (V.int n),v3,v4,v5]= [some (V.ref a),some (V.int c),some (V.int n),w3,w4,w5]:=
       ⟨.inl c0,fun H1 S1=>⟨.inl c0,fun H2 S2=>⟨S1.trans S2,_,_,_,rfl⟩⟩⟩
      by_cases c1:n<0
      ·rw [if_pos c1];exact r
      ·
       rw [if_neg c1]
       refine ⟨sh,?_⟩
       rw [if_pos (Int.not_lt.mp fun h=>c0 ⟨by omega,h⟩)]
       exact r
    rintro σ H4 ⟨s4,w3,w4,w5,rfl⟩
    replace sm:=sm.trans s4
    rw [←h_u3,au]
    generalize h_u5:au _=u5
    walk_at "wps"
    have b0:=Int.emod_nonneg n (show (18889465931478580854784:Int)≠0 by decide)
    have b1:=Int.emod_lt_of_pos n (show (0:Int)<18889465931478580854784 by decide)
    refine ⟨sh,(n % 18889465931478580854784).toNat,(Int.toNat_of_nonneg b0).symm,by omega,?_⟩
    generalize (n % 18889465931478580854784).toNat=m
    rw [←h_u5,au]
    generalize h_u6:au _=u6
    have fin: ∀(z:Str) (H9:Hp),bw H4 H9→z.length≤sizeLine→u6 {nx:=fun σ H'=>bw H3 H'∧∃v1 v2 v3 v4 v5,σ= [some (V.ref a),v1,v2,v3,v4,v5],rt:=Q,bk:=nU (tC (V.bl true)) {nx:=fun x H'=>Q V.non H',rt:=Q},ct:=fun σ H'=>bw H3 H'∧∃v1 v2 v3 v4 v5,σ= [some (V.ref a),v1,v2,v3,v4,v5]} [some (V.ref a),some (V.int c),some (V.int n),some (V.str z),w4,w5] H9:=by
     intro z H9 S9 hz
     rw [←h_u6,au]
     walk_at "wps"
     refine ⟨hz,fun H10 S10=>?_⟩
     cases cg:bJ z with
     |false=>
      walk_at "wps"
      refine ⟨.inr ⟨z,rfl,hz,cg⟩,fun H11 S11=>?_⟩
      exact ⟨sm.trans ((S9.trans S10).trans S11),_,_,_,_,_,rfl⟩
     |true=>
      walk_at "wps"
      refine ⟨hz,(fun h=>h.elim),fun _ H11 S11=>?_⟩
      obtain ⟨e1,e2⟩:=nQ cg
      refine ⟨iW z,rfl,e2,?_⟩
      rw [e1]
      walk_at "wps"
      exact ⟨sm.trans ((S9.trans S10).trans S11),_,_,_,_,_,rfl⟩
    walk_at "wps"
    split
    ·exact ⟨fj m,fun r H9 S9 hr=>fin r H9 S9 hr⟩
    ·exact fin _ _ (bw.refl _) (by rw [fj];exact a8 (by decide))
   ·
    obtain ⟨sm,v1,v2,v3,v4,v5,rfl⟩:=hp
    walk_at "wps"
    exact q _
  ·exact h.elim
end
theorem fin {P:Program} {w:World} {K:PySem.W.Frag} {h:Heap} {mg:Str→Option Value} {fa:Addr} {aw aa aq ah:Addr} (KX:K.In h) (G:h.Ns mainGlobals mg) (hmg:mg "law" = some (.ref fa)) (T:Txt K mg aw aa aq ah):
  ∃fd:FuncData,(∀(s:Shared) (u:Value),BindsTo s fd ⟨[u],[]⟩ [("_law_script",u)])∧∀base:Heap,K.In base→base.Ns mainGlobals mg→dZ P w K mg base pT 5 fa fd ["_law_script"] (eY K):=
 law_fin hmg T.iS lp fun base=>oU T
end K19
open PySem PySem.W PyProof.Rows
set_option maxRecDepth 100000 in
set_option maxHeartbeats 0 in
theorem PySem.Challenge.cw_slowroad_k19_bits_as_texts_holds : PySem.Challenge.rw_slowroad_k19_bits_as_texts.Holds := by
 w_on;o_law;k_head;(case hw=>w_witness2)
 k_fill
 refine L2.kJ (l:=PySem.Challenge.rw_slowroad_k19_bits_as_texts) (k:=5) (x:="_law_script") rfl rfl ⟨rfl,by decide,by decide⟩ (fun w h Y=>PySem.W.kIn_of Y) ?F
 case F=>
  intro w mg fa h KX G hmg
  refine' K19.fin KX G hmg ?TT
  case TT=>
   refine' K19.Txt.mk ?cx ?dj ?dG ?di ?cq ?b8 ?cG ?aC ?bS ?az ?aB ?aL ?aP ?aU ?aY ?aK ?aO ?fV ?cv ?e8 ?a3 ?b5 ?aD ?aF ?aS ?aW ?a5 ?a7 ?aR ?aV ?eT ?b7 ?et ?a4 ?bR ?ay ?aA ?aJ ?aN ?aT ?aX ?aI ?aM ?unb ?bI ?dv ?dP ?dw ?cH ?cp ?cV ?bH ?cc ?cW ?iS ?cI ?lu ?ia ?lr ?a_ ?eG ?d5 ?lq ?bO
   case cx|dj|dG|di=>refine' L2.lE KX G ?a ?t ?b;(case a=>k_is);(case t=>k_is);(case b=>k_is)
   case cq|fV|eT=>refine' ⟨_,L2.lG KX G ?a ?l ?o ?i ?t ?l2 ?o2 ?i2 ?t2⟩;(case a=>k_is);(case l=>k_is);(case o=>kernel_rfl);(case i=>k_is);(case t=>k_is);(case l2=>k_is);(case o2=>kernel_rfl);(case i2=>k_is);(case t2=>k_is)
   case b8|cv|b7=>refine' L2.lF ?a ?b ?c ?d ?e ?f ?g ?h;(case a=>k_is);(case b=>k_is);(case c=>k_is);(case d=>k_is);(case e=>k_is);(case f=>k_is);(case g=>k_is);(case h=>k_is)
   case cG|e8|et=>k_is
   case aC|a3|a4=>refine' ⟨?a,?b⟩;(case a=>k_is);(case b=>k_is)
   case bS|az|aL|aU|aK|b5|aD|aS|a5|aR|bR|ay|aJ|aT|aI=>kit_is
   case aB|aP|aY|aO|aF|aW|a7|aV|aA|aN|aX|aM=>refine' (show PySem.W.mroIn _ _ _=_ from ?a);(case a=>k_is)
   case unb=>refine' (show PySem.W.nsIn _ 2 _=_ from ?a);(case a=>k_is)
   case bI=>refine' L2.jw ?a ?i ?l ?c ?k;(case a=>k_is);(case i=>k_is);(case l=>k_is);(case c=>k_is);(case k=>k_is)
   case dv|dP|dw|cH|cp|cV|bH|cc|cW|iS=>refine' L2.k8 KX G ?a ?l ?c ?k;(case a=>k_is);(case l=>k_is);(case c=>k_is);(case k=>k_is)
   case cI|lu|ia|lr|a_|eG|d5|lq=>refine' PySem.W.mg_none_of KX G ?a;(case a=>k_is)
   case bO=>refine' ⟨_,PySem.W.mg_of KX G ?a,?r⟩;(case a=>k_is);(case r=>exact ⟨_,rfl⟩)
#print axioms PySem.Challenge.cw_slowroad_k19_bits_as_texts_holds
