import PyProof.Rows.All
import Wide.All
import OpenK.AllK
import Wide.FinOn
import PyProof.EqAt
import PyProof.EqKinds
import PyProof.TupleCall
import PyProof.NeKinds
import PyProof.Rows.BitMore
import PyProof.FitsBits
import PyProof.Rows.TupAssign
import PyProof.ListRange
import PyProof.Rows.ZipGen
import PyProof.StationsW
import PyProof.ExcInit
import PyProof.ExcClass2
import PyProof.RulesTry
import PyProof.ExcBaseAll.ValueError
import PyProof.InstStoreFacts
import PyProof.RulesAs
import PyProof.RulesDel
import PyProof.ExcArgs
import KE.KUnpack
import PyProof.Draws
import PyProof.EnumMake
import KE.KMinBuiltin
import KE.KDictLaws
import KE.KIntText
import PyProof.MeetsStr3
import PyProof.StrLawsIn
import Lean
import PySem.Challenge.RW_slowroad_k84_desk_newly_told
set_option maxRecDepth 100000
set_option maxHeartbeats 4000000
set_option Elab.async false
set_option linter.all false
set_option compiler.extract_closed false
namespace L2
open PySem PySem.Spec PyProof.Rows
noncomputable abbrev Key:=Sum Int Str
noncomputable def Tx:Key->Value->Bool
 | .inl k,v=>Value.isInt k v
 | .inr x,v=>Value.isStrOf x v
noncomputable def alF (w:World):Key->Int
 | .inl k=>hashInt k
 | .inr x=>hashStr w x
theorem fS: ∀{k:Key} {v:Value},Tx k v=true->(∃i t,k=Sum.inl i/\v=Value.int i t)\/(∃x t,k=Sum.inr x/\v=Value.str x t)
 | .inl i,v,h=>by
  obtain⟨t,e⟩:=Value.isInt_shape h;exact .inl ⟨i,t,rfl,e⟩
 | .inr x,v,h=>by
  obtain⟨t,e⟩:=Value.isStrOf_shape h;exact .inr ⟨x,t,rfl,e⟩
theorem Vn (a b:Int):decide ((Sum.inl a:Key)=Sum.inl b)=(a == b):=by
 lia
theorem Vk (a b:Str):decide ((Sum.inr a:Key)=Sum.inr b)=decide (a=b):=by
 simp_all
theorem Vm (a:Int) (b:Str):decide ((Sum.inl a:Key)=Sum.inr b)=false:=decide_eq_false (fun q=>nomatch q)
theorem Vl (a:Str) (b:Int):decide ((Sum.inr a:Key)=Sum.inl b)=false:=decide_eq_false (fun q=>nomatch q)
noncomputable def F4 (prog:Program) (w:World):PySem.KeyKind prog w Key where
 is:=Tx
 hash:=alF w
 inj:=fun v a b ha hb=>by
  rcases fS ha with⟨i,t,rfl,rfl⟩|⟨x,t,rfl,rfl⟩
  ·
   rcases fS hb with⟨j,u,rfl,e⟩|⟨y,u,rfl,e⟩
   ·injection e with d _;rw[d]
   ·exact nomatch e
  ·
   rcases fS hb with⟨j,u,rfl,e⟩|⟨y,u,rfl,e⟩
   ·exact nomatch e
   ·injection e with d _;rw[d]
 byValue:=fun k v h=>by
  rcases fS h with⟨i,t,rfl,rfl⟩|⟨x,t,rfl,rfl⟩<;>rfl
 pyHash:=fun m h=>by
  rcases fS m with⟨i,t,rfl,rfl⟩|⟨x,t,rfl,rfl⟩
  ·exact wpAny_pyHash_int h
  ·exact wpAny_pyHash_str h
 eqBool:=fun n m h=>by
  rcases fS n with⟨i,t,rfl,rfl⟩|⟨x,t,rfl,rfl⟩
  ·
   rcases fS m with⟨j,u,rfl,rfl⟩|⟨y,u,rfl,rfl⟩
   ·rw[Vn] at h;exact wpAny_eqBool_int h
   ·rw[Vm] at h;exact SeqAt.EqAt.int_str i t y u _ _ _ _ h
  ·
   rcases fS m with⟨j,u,rfl,rfl⟩|⟨y,u,rfl,rfl⟩
   ·rw[Vl] at h;exact SeqAt.EqAt.str_int x t j u _ _ _ _ h
   ·rw[Vk] at h;exact wpAny_eqBool_str h
 «strs» :=fun k x t v h=>by
  rcases fS h with⟨i,u,rfl,e⟩|⟨y,u,rfl,e⟩
  ·exact nomatch e
  ·
   injection e with d _;subst d;cases v<;>rfl
inductive V where
 |non|bl (b:Bool)|int (i:Int)|str (x:Str)|byt (b:Array UInt8)|flt (b:UInt64)|ref (a:Addr)|ty (n:String)
 deriving DecidableEq
def RelV:V->Value->Prop
 | .non,u=>u=Value.none
 | .bl b,u=>u=Value.bool b
 | .int i,u=> ∃t,u=Value.int i t
 | .str x,u=> ∃t,u=Value.str x t
 | .byt b,u=> ∃t,u=Value.bytes b t
 | .flt b,u=> ∃t,u=Value.float b t
 | .ref a,u=>u=Value.ref a
 | .ty n,u=>u=Value.type n
abbrev Vals:List V->List Value->Prop:=Paired RelV
theorem Vals.length (r:Vals xs us):xs.length=us.length:=Paired.length r
theorem Vals.get: ∀{xs:List V} {us:List Value} {i:Nat} {x:V},Vals xs us->xs[i]?=some x->∃u,us[i]?=some u/\RelV x u
 |_,_,_,_,.nil,e=>by trivial
 |_,_,0,_,.cons r _,e=>by simp_all
 |_,_,i+1,x,.cons _ t,e=>by
  obtain⟨u,h1,a⟩:=Vals.get t (‹_›);exact⟨u,‹_›,a⟩
theorem Vals.set (r:RelV x u): ∀{xs:List V} {us:List Value} (i:Nat),Vals xs us->Vals (xs.set i x) (us.set i u)
 |_,_,_,.nil=> .nil
 |_,_,0,.cons _ t=> .cons r t
 |_,_,i+1,.cons q t=> .cons q (Vals.set r i t)
theorem Vals.append: ∀{xs a:List V} {us ws:List Value},Vals xs us->Vals a ws->Vals (xs++a) (us++ws)
 |_,_,_,_,.nil,s=>s
 |_,_,_,_,.cons r t,s=> .cons r (Vals.append t s)
theorem Vals.take: ∀{xs:List V} {us:List Value} (n:Nat),Vals xs us->Vals (xs.take n) (us.take n)
 |_,_,0,_=> .nil
 |_,_,_+1,.nil=> .nil
 |_,_,n+1,.cons r t=> .cons r (Vals.take n t)
theorem Vals.drop: ∀{xs:List V} {us:List Value} (n:Nat),Vals xs us->Vals (xs.drop n) (us.drop n)
 |_,_,0,r=>r
 |_,_,_+1,.nil=> .nil
 |_,_,n+1,.cons _ t=>Vals.drop n t
def Bx:Option V->Option Value->Prop
 |some v,some u=>RelV v u
 |none,none=>True
 |_,_=>False
def KV {a:Type}:List (a×V)->List (a×Value)->Prop:=Paired fun(p:a×V) (q:a×Value)=>p.1=q.1/\RelV p.2 q.2
noncomputable def kV:Key->V
 | .inl i=> .int i
 | .inr x=> .str x
inductive HO where

 |lst (xs:List V)

 |tup (xs:List V)

 |dK (kvs:List (Key×V))|dT (kvs:List (List Key×V))

 |set (S:Int->Bool) (n:Nat)

 |ins (C dx:Addr) (fs:List (Str×V))

 |own (x:Addr)

 |xd (fs:List (Str×V))

 |met (f x:Addr)

 |rng (lo hi:Int)

 |frz (o:Obj) (u:HO)

 |tbl (ps:Array Value)

 |ext (φ:Heap->Prop)
noncomputable abbrev Hp:=Addr->Option HO
noncomputable def upd (H:Hp) (a:Addr) (o:HO):Hp:=fun b=>if b=a then some o else H b
theorem aa:upd H a o a=some o:=by unfold upd;rw[if_pos rfl]
theorem ah (h:b≠a):upd H a o b=H b:=by unfold upd;rw[if_neg h]
theorem Md:upd (upd H a o) a u=upd H a u:=by
 funext b;unfold upd;split<;>rfl
theorem gC {H:Hp} (h:H a=some o) (h':H b=some u) (d:o≠u):a≠b:=by
 lia
theorem ax {H:Hp} (h:H a=some o) (h':H b=none):a≠b:=by
 lia
section
variable (P:Program) (w:World)
def jD (H:Hp) (h:Heap) (a:Addr):HO->Prop
 | .lst xs=>xs.length<=sizeLine/\∃(d:List Value) (n:Nat),Vals xs d/\h.get? a=some {cls:= .type "list",data:= .seq d.toArray n}
 | .tup xs=>xs.length<=sizeLine/\∃d:List Value,Vals xs d/\IsTup h a d.toArray
 | .dK i=>i.length<=sizeLine/\(a == sysModules)=false/\∃vs,KV i vs/\h.DictOf (F4 P w) a vs
 |
   .dT i=>i.length<=sizeLine/\(a == sysModules)=false/\∃xs:List (List Key×Addr×Value),
   Paired (fun(p:List Key×V) (q:List Key×Addr×Value)=>p.1=q.1/\H q.2.1=some (.tup (p.1.map kV))/\RelV p.2 q.2.2) i xs/\
   ∃o y B,h.get? a=some o/\o.ExactDict/\o.data = .dict y B/\y.toList=xs.map (entryOfKey (tupleKind (F4 P w)))/\(xs.map (·.1)).Nodup
 | .set S n=>h.SetOf (intKind P w) a S n
 |
   .ins C dx fs=>H dx=some (.own a)/\fs.length<=1000/\dx≠a/\h.get? a=some (W.instObj C dx)/\
   ∃j,h.Ns1 dx j/\(∀f,Bx (fs.lookup f) (j f))/\PySem.Within j (fs.map (·.1))
 | .own _=> ∃o,h.get? a=some o
 | .xd fs=> ∃j,h.Ns1 a j/\∀f,Bx (fs.lookup f) (j f)
 | .rng lo z=> ∃t u v,h.get? a=some {cls:= .type "range",data:= .fields #[.int lo t,.int z u,.int 1 v]}
 | .frz o u=>h.get? a=some o/\jD H h a u
 | .tbl E=>h.get? a=some {cls:= .none,data:= .fields E}
 | .met f x=>h.get? a=some (W.methodObj (.ref f) (.ref x))
 | .ext m=>m h/\(∃o,h.get? a=some o)/\∀h1 s:Heap,m h1->(∀o,h1.get? a=some o->s.get? a=some o)->m s
def yS (H:Hp) (h:Heap):Prop:= ∀a o,H a=some o->jD P w H h a o
end
section
theorem jD.lt (x:jD P w H h a o):a<h.objs.size:=by
 cases o with
 |lst xs=>obtain⟨_,_,_,_,e⟩:=x;exact Heap.lt_size e
 |tup xs=>obtain⟨_,_,_,p⟩:=x;exact p.lt
 |dK d=>obtain⟨_,_,_,_,o,_,_,e,_⟩:=x;exact Heap.lt_size e
 |dT d=>obtain⟨_,_,_,_,o,_,_,e,_⟩:=x;exact Heap.lt_size e
 |set S n=>obtain⟨o,_,_,_,e,_⟩:=x;exact Heap.lt_size e
 |ins C dx fs=>obtain⟨_,_,_,e,_⟩:=x;exact Heap.lt_size e
 |own y=>obtain⟨_,e⟩:=x;exact Heap.lt_size e
 |xd fs=>obtain⟨_,⟨_,_,_,e,_⟩,_⟩:=x;exact Heap.lt_size e
 |rng lo i=>obtain⟨_,_,_,e⟩:=x;exact Heap.lt_size e
 |frz ob u=>obtain⟨e,_⟩:=x;exact Heap.lt_size e
 |tbl j=>exact Heap.lt_size ((x))
 |met f y=>exact Heap.lt_size ((x))
 |ext m=>obtain⟨_,⟨_,e⟩,_⟩:=x;exact Heap.lt_size e
theorem Paired.af0: ∀{d:List α} {i:List β},Paired F d i->(∀a b,F a b->G a b)->Paired G d i
 |_,_,.nil,_=> .nil
 |_,_,.cons r t,f=> .cons (f _ _ r) (Paired.af0 t f)
theorem jD.stay (x:jD P w H h a o) (k: ∀b u,(b=a\/H b=some (.own a))->h.get? b=some u->h'.get? b=some u) (ho: ∀b,H b=some (.own a)->H' b=some (.own a)) (ht: ∀b xs,H b=some (.tup xs)->H' b=some (.tup xs)):jD P w H' h' a o:=by
 induction o with
 |lst xs=>obtain⟨z,m,n,r,e⟩:=x;exact⟨z,m,n,r,k _ _ (.inl rfl) e⟩
 |tup xs=>obtain⟨z,m,r,ob,e,c⟩:=x;exact⟨z,m,r,ob,k _ _ (.inl rfl) e,c⟩
 |dK E=>obtain⟨z,y,vs,r,ob,j,i,e,c⟩:=x;exact⟨z,y,vs,r,ob,j,i,k _ _ (.inl rfl) e,c⟩
 |dT E=>
  obtain⟨z,y,xs,r,ob,j,i,e,c⟩:=x;exact⟨z,y,xs,Paired.af0 r fun p q z=>⟨z.1,ht _ _ z.2.1,z.2.2⟩,ob,j,i,k _ _ (.inl rfl) e,c⟩
 |set S n=>obtain⟨ob,j,i,t,e,c⟩:=x;exact⟨ob,j,i,t,k _ _ (.inl rfl) e,c⟩
 |ins C dx fs=>
  obtain⟨d,z,ne,e,B,⟨s,j,i,G,c⟩,r⟩:=x;exact⟨ho _ d,z,ne,k _ _ (.inl rfl) e,B,⟨s,j,i,k _ _ (.inr d) G,c⟩,r⟩
 |own y=>obtain⟨ob,e⟩:=x;exact⟨ob,k _ _ (.inl rfl) e⟩
 |xd fs=>obtain⟨B,⟨s,j,i,e,c⟩,r⟩:=x;exact⟨B,⟨s,j,i,k _ _ (.inl rfl) e,c⟩,r⟩
 |rng lo I=>obtain⟨t,u,v,e⟩:=x;exact⟨t,u,v,k _ _ (.inl rfl) e⟩
 |frz ob u F=>obtain⟨e,q⟩:=x;exact⟨k _ _ (.inl rfl) e,F q⟩
 |tbl J=>
  have e:=x;exact k a _ (.inl rfl) e
 |met f y=>
  have e:=x;exact k a _ (.inl rfl) e
 |ext O=>obtain⟨p,⟨o,e⟩,st⟩:=x;exact⟨st _ _ p fun o q=>k _ _ (.inl rfl) q,⟨o,k _ _ (.inl rfl) e⟩,st⟩
theorem yS.lt (x:yS P w H h) (e:H a=some o):a<h.objs.size:=(x a o e).lt
theorem yS.fresh (x:yS P w H h) (e:h.objs.size<=a):H a=none:=by
 cases q:H a with
 |none=>rfl
 |some u=>exact absurd (Nat.lt_of_lt_of_le (x.lt q) e) (Nat.lt_irrefl _)
theorem yS.kept (x:yS P w H h) (k: ∀b u,h.get? b=some u->h'.get? b=some u):yS P w H h':=fun a o e=>
 (x a o e).stay (fun b u _ q=>k b u q) (fun _ q=>q) fun _ _ q=>q
theorem yS.laid (x:yS P w H h) (k: ∀b u,h.get? b=some u->h'.get? b=some u) (d:h.objs.size<=a) (new:jD P w (upd H a o) h' a o):yS P w (upd H a o) h':=fun b u e=>by
 have hn:=x.fresh d;by_cases hb:b=a
 ·subst hb;rw[aa] at e;cases e;exact new
 ·
  rw[ah hb] at e;exact(x b u e).stay (fun c v _ q=>k c v q) (fun c q=>by rw[ah (ax q hn)];exact q) fun c xs q=>by rw[ah (ax q hn)];exact q
end
def Rd (H:Hp) (a:Addr) (u:HO):Prop:=H a=some u\/∃o,H a=some (.frz o u)
theorem Rd.ok (r:Rd H a u) (x:yS P w H h):jD P w H h a u:=by
 rcases r with r|⟨o,r⟩
 ·exact x a u r
 ·
  obtain⟨_,q⟩:=x a _ r;exact q
def Mut:Option HO->Prop
 |some (.lst _)=>True
 |some (.dK _)=>True
 |some (.dT _)=>True
 |some (.set _ _)=>True
 |some (.ins _ _ _)=>True
 |some (.ext _)=>True
 |_=>False
section
theorem yS.write (ok:yS P w H h) (i:Mut (H x)) (he:e=x\/H e=some (.own x)) (k: ∀b u,b≠e->h.get? b=some u->h'.get? b=some u) (j: ∃u,h'.get? e=some u) (new:jD P w (upd H x o') h' x o'):yS P w (upd H x o') h':=fun b u q=>by
 have a: ∀c y,H c=some (.own y)->c≠x:=fun c y r z=>by subst z;rw[r] at i;exact i
 have d: ∀c xs,H c=some (.tup xs)->c≠x:=fun c xs r z=>by subst z;rw[r] at i;exact i
 by_cases hb:b=x
 ·subst hb;rw[aa] at q;cases q;exact new
 ·
  rw[ah hb] at q;by_cases n:b=e
  ·have m:H b=some (.own x):=by
    simp_all
   rw[q] at m;cases m;obtain⟨v,s⟩:=j;exact⟨v,by simp_all⟩
  ·
   refine(ok b u q).stay (fun c v hc r=>k c v ?_ r) (fun c r=>by rw[ah (a c b r)];exact r) fun c xs r=>by rw[ah (d c xs r)];exact r
   rcases hc with rfl|hc
   ·trivial
   ·grind
end
structure Un (fs ex:List Addr) (H H':Hp) (h h':Heap):Prop where
 keep: ∀b o,h.get? b=some o->H b=none->b ∉ fs->b ∉ ex->h'.get? b=some o
 slot: ∀b o,h.get? b=some o->H b=none->b∈fs->b ∉ ex->∃sl,h'.get? b=some {o with slots:=sl}
 free: ∀b o,h.get? b=some o->H b=none->b ∉ ex->H' b=none
 there: ∀b o,h.get? b=some o->b ∉ ex->∃o',h'.get? b=some o'
 tups: ∀b xs,H b=some (.tup xs)->H' b=some (.tup xs)
 frzs: ∀b o u,H b=some (.frz o u)->H' b=some (.frz o u)
 tbls: ∀b ps,H b=some (.tbl ps)->∃more,H' b=some (.tbl (ps++more))
section
theorem Un.any (u:Un fs ex H H1 h h1) (q:h.get? b=some ob) (n:H b=none) (hx:b ∉ ex): ∃a,h1.get? b=some {ob with slots:=a}:=by
 by_cases hb:b∈fs
 ·exact u.slot b ob q n hb hx
 ·exact⟨_,u.keep b ob q n hb hx⟩
theorem Un.kept (k: ∀b u,h.get? b=some u->h'.get? b=some u):Un fs ex H H h h':=
 ⟨fun b ob q _ _ _=>k b ob q,fun b ob q _ _ _=>⟨_,k b ob q⟩,fun _ _ _ n _=>n,fun b ob q _=>⟨ob,k b ob q⟩,fun _ _ q=>q,fun _ _ _ q=>q,fun _ a q=>⟨#[],‹_›⟩⟩
theorem Un.refl:Un fs ex H H h h:=Un.kept fun _ _ q=>q
theorem Un.laid (k: ∀b u,h.get? b=some u->h'.get? b=some u) (d:h.objs.size<=a) (hn:H a=none):Un fs ex H (upd H a o) h h' where
 keep:=fun b u q _ _ _=>k b u q
 slot:=fun b u q _ _ _=>⟨_,k b u q⟩
 free:=fun b u q n _=>by rw[ah (Nat.ne_of_lt (Nat.lt_of_lt_of_le (Heap.lt_size q) d))];exact n
 there:=fun b u q _=>⟨u,k b u q⟩
 tups:=fun b xs q=>by rw[ah (ax q hn)];exact q
 frzs:=fun b u xs q=>by rw[ah (ax q hn)];exact q
 tbls:=fun b i q=>⟨#[],by rw[ah (ax q hn),q];simp⟩
theorem Un.write (d:Mut (H x)) (he:e=x\/H e=some (.own x)) (k: ∀b u,b≠e->h.get? b=some u->h'.get? b=some u) (i: ∃u,h'.get? e=some u):Un fs ex H (upd H x o) h h':=by
 have hx: ∀b,H b=none->b≠x:=fun b n z=>by subst z;rw[n] at d;exact d
 have hb: ∀b,H b=none->b≠e:=fun b n z=>by
  simp_all
 have hm: ∀b u,H b=some u->¬Mut (some u)->b≠x:=fun b u q nm z=>by simp_all
 refine⟨fun b u q n _ _=>k b u (hb b n) q,fun b u q n _ _=>⟨_,k b u (hb b n) q⟩,fun b u q n _=>by rw[ah (hx b n)];exact n,fun b u q _=>?_,
  fun b xs q=>by rw[ah (hm b _ q fun z=>z)];exact q,fun b u xs q=>by rw[ah (hm b _ q fun z=>z)];exact q,fun b j q=>⟨#[],by rw[ah (hm b _ q fun z=>z),q];simp⟩⟩
 by_cases a:b=e
 ·simp_all
 ·exact⟨u,k b u a q⟩
end
noncomputable def trk (h:Heap) (H:Hp):List Addr:=(List.range h.objs.size).filter fun a=>(H a).isSome
noncomputable def HD (h:Heap) (H:Hp):Heap:=W.hideAll h (trk h H)
theorem HC (h:Heap) (H:Hp):(HD h H).objs.size=h.objs.size:=W.hideAll_size _ _
theorem Lr (e:h.get? b=some o) (n:H b=none):(HD h H).get? b=some o:=
 W.hideAll_get _ e fun hm=>by
  have q:=(List.mem_filter.mp hm).2;rw[n] at q;simp at q
theorem Nh (e:(HD h H).get? b=some o):h.get? b=some o/\H b=none:=by
 have a:=W.of_hideAll _ e;refine⟨a,?_⟩;cases q:H b with
 |none=>rfl
 |some x=>
  have hm:b∈trk h H:=List.mem_filter.mpr ⟨List.mem_range.mpr (Heap.lt_size a),by simp[q]⟩;have z:(HD h H).get? b=none:=W.hideAll_none _ hm;rw[z] at e;cases e
structure Mod (K:W.Frag) (mg:Str->Option Value) (base:Heap):Prop where
 kin:K.In base
 glob:base.Ns mainGlobals mg
 blt: ∃mb,base.Ns builtinsNs mb/\∀x:Str,x≠ "__name__" ->mb x=bootBuiltins x
 nolimit:base.NoLimit
structure Cx where
 prog:Program
 w:World
 K:W.Frag
 mg:Str->Option Value
 base:Heap
 A:Around
 N:List Str
 s₀:Shared
 H₀:Hp
 env:Env
 outer:List Env
 stack:List Env
 ex:List Addr
 fn:Str->Bool
 calm:Bool
 pn:List (Addr×Obj)
 xe:Value->Shared->Prop
noncomputable def frs (l:List Env):List Addr:=l.filterMap (·.frame)
noncomputable abbrev Cx.fs (X:Cx):List Addr:=frs X.outer
def Vis (sc:Scope) (x:Str):Prop:=sc.names.lookup x=some .local\/sc.names.lookup x=some .cell\/sc.names.lookup x=some .free
def Loc (sc:Scope) (x:Str):Prop:=sc.names.lookup x=some .local\/sc.names.lookup x=some .cell
def Look (env:Env) (h:Heap) (m:Str->Option Value) (x:Str) (u:Value):Prop:=
 (env.kindOf x=some .local/\m x=some u)\/((env.kindOf x=some .cell\/env.kindOf x=some .free)/\∃c,env.cells.lookup x=some c/\h.IsCell c (some u))
structure Cx.Ok (X:Cx):Prop where
 mod:Mod X.K X.mg X.base
 kind:X.env.scope.kind = .function
 glob:X.env.globals=mainGlobals
 blt:X.env.builtins=builtinsNs
 above:X.s₀.heap.objs.size<=X.env.locals
 inj: ∀x y c,X.env.cells.lookup x=some c->X.env.cells.lookup y=some c->x=y
 has: ∀x,(X.env.kindOf x=some .cell\/X.env.kindOf x=some .free)->∃c,X.env.cells.lookup x=some c
 cab: ∀x c,X.fn x=true->X.env.cells.lookup x=some c->X.s₀.heap.objs.size<=c
 hd:X.calm=true->X.A.handled=none
 frames:X.A.frames=some X.stack
 stk:X.stack=X.outer\/(X.stack=X.env::X.outer/\X.env.frame=some X.env.locals)
 exf: ∀b∈X.ex,b≠X.env.locals/\∀x c,X.env.cells.lookup x=some c->c≠b
 bs: ∀b o,X.base.get? b=some o->X.s₀.heap.get? b=some o/\X.H₀ b=none
 bsz:X.base.objs.size<=X.s₀.heap.objs.size
 noex: ∀b o,X.base.get? b=some o->b ∉ X.ex
 exfs: ∀b∈X.ex,b ∉ X.fs
 funs:X.s₀.heap.FunFrames X.base X.outer
 frf: ∀b∈X.fs,X.H₀ b=none
structure Inv (X:Cx) (pins:List (Addr×Obj)) (σ:List (Option V)) (H:Hp) (s:Shared):Prop where
 ok:X.Ok
 os:s.os=X.s₀.os
 bare:AllBare s.gens
 base:Un X.fs X.ex X.H₀ H X.s₀.heap s.heap
 loc: ∃m,s.heap.Ns X.env.locals m/\∀(i:Nat) (x:Str) (v:V),X.N[i]?=some x->σ[i]?=some (some v)->Vis X.env.scope x->∃u,RelV v u/\Look X.env s.heap m x u
 cell: ∀x c,X.env.cells.lookup x=some c->∃v,s.heap.IsCell c v
 free:H X.env.locals=none
 mU: ∀x c,X.env.cells.lookup x=some c->H c=none
 pin: ∀p∈X.pn++pins,s.heap.get? p.1=some p.2/\H p.1=none/\p.1≠X.env.locals/\p.1 ∉ X.fs/\∀v,p.2.data≠ .cell v
 hok:yS X.prog X.w H s.heap
 len:σ.length=X.N.length
section
theorem Cx.Ok.nofr {X:Cx} (ok:X.Ok) (e:X.base.get? b=some o):b ∉ X.fs:=fun hb=>by
 have:=(ok.funs.mem hb).1;rw[e] at this;cases this
theorem Inv.bs (I:Inv X pins σ H s): ∀b o,X.base.get? b=some o->s.heap.get? b=some o/\H b=none:=fun b o e=>
 ⟨I.base.keep b o (I.ok.bs b o e).1 (I.ok.bs b o e).2 (I.ok.nofr e) (I.ok.noex b o e),I.base.free b o (I.ok.bs b o e).1 (I.ok.bs b o e).2 (I.ok.noex b o e)⟩
theorem Inv.bk (I:Inv X pins σ H s): ∀b o,X.base.get? b=some o->s.heap.get? b=some o:=fun b o e=>(I.bs b o e).1
theorem Inv.mod (I:Inv X pins σ H s):Mod X.K X.mg X.base:=I.ok.mod
theorem Inv.l9 (I:Inv X pins σ H s):X.K.In s.heap:=I.ok.mod.kin.keeps I.bk
theorem Inv.lt (I:Inv X pins σ H s):X.env.locals<s.heap.objs.size:=let ⟨_,hn,_⟩:=I.loc;hn.lt
theorem Inv.sz (I:Inv X pins σ H s):X.s₀.heap.objs.size<=s.heap.objs.size:=Nat.le_trans I.ok.above (Nat.le_of_lt I.lt)
theorem Inv.nofs (I:Inv X pins σ H s) (h:s.heap.objs.size<=a):a ∉ X.fs:=fun hb=>by
 obtain⟨_,o,ho,_⟩:=I.ok.funs.mem hb;exact absurd (Nat.lt_of_lt_of_le (Heap.lt_size ho) (Nat.le_trans I.sz h)) (Nat.lt_irrefl _)
theorem Inv.cne (I:Inv X pins σ H s): ∀x c,X.env.cells.lookup x=some c->c≠X.env.locals:=fun x c e z=>by
 obtain⟨v,o,ho,hd⟩:=I.cell x c e;obtain⟨m,⟨n,j,i,d,a,_⟩,_⟩:=I.loc;rw[z,d] at ho;cases ho;rw[a] at hd;cases hd
theorem Inv.funs (I:Inv X pins σ H s):s.heap.FunFrames X.base X.outer:=by
 have all: ∀l,(∀b∈frs l,b∈X.fs)->X.s₀.heap.FunFrames X.base l->s.heap.FunFrames X.base l:=by
  intro l
  induction l with
  |nil=>intro _ _;trivial
  |cons env r j=>
   intro d i;obtain⟨hk,⟨L,o,hf,hn,ho,hd⟩,hr⟩:=i;have a:=d L (by unfold frs;rw[List.filterMap_cons,hf];exact List.mem_cons_self);obtain⟨m,e⟩:=I.base.slot L o ho (I.ok.frf L a) a fun z=>I.ok.exfs L z a;exact⟨hk,⟨L,_,hf,hn,e,hd⟩,j (fun b hb=>d b (by unfold frs;rw[List.filterMap_cons,hf];exact List.mem_cons_of_mem _ hb)) hr⟩
 exact all _ (fun _ hb=>hb) I.ok.funs
theorem Inv.stack (I:Inv X pins σ H s):s.heap.FunFrames X.base X.stack:=by
 rcases I.ok.stk with e|⟨e,hf⟩
 ·rw[e];exact I.funs
 ·
  rw[e];obtain⟨m,hn,_⟩:=I.loc;refine .cons (by rw[I.ok.kind];decide) hf hn ?_ I.funs;exact Heap.get?_none_of_le (Nat.le_trans I.ok.bsz I.ok.above)
theorem Inv.zk (I:Inv X pins σ H s): ∀b∈frs X.stack,b∈X.env.locals::X.fs:=fun b hb=>by
 rcases I.ok.stk with e|⟨e,hf⟩
 ·simp_all
 ·
  rw[e] at hb;unfold frs at hb;rw[List.filterMap_cons,hf] at hb;exact hb
theorem Inv.uQ (I:Inv X pins σ H s): ∀b∈frs X.stack,H b=none:=fun b hb=>by
 rcases List.mem_cons.mp (I.zk b hb) with e|hb
 ·rw[e];exact I.free
 ·
  obtain⟨_,o,ho,_⟩:=I.ok.funs.mem hb;exact I.base.free b o ho (I.ok.frf b hb) fun z=>I.ok.exfs b z hb
theorem Inv.step {ch:List Addr} (I:Inv X pins σ H s) (a: ∀b∈ch,(b∈X.ex\/X.s₀.heap.objs.size<=b)/\b≠X.env.locals/\(∀x c,X.env.cells.lookup x=some c->c≠b)/\∀p∈X.pn++pins,p.1≠b) (keep: ∀b o,b≠X.env.locals->b ∉ X.fs->b ∉ ch->s.heap.get? b=some o->H b=none->h'.get? b=some o) (slot: ∀b o,b≠X.env.locals->b∈X.fs->b ∉ ch->s.heap.get? b=some o->H b=none->∃O,h'.get? b=some {o with slots:=O}) (free: ∀b o,b ∉ ch->s.heap.get? b=some o->H b=none->H' b=none) (there: ∀b o,b ∉ ch->s.heap.get? b=some o->∃C,h'.get? b=some C) (tups: ∀b xs,H b=some (.tup xs)->H' b=some (.tup xs)) (frzs: ∀b o u,H b=some (.frz o u)->H' b=some (.frz o u)) (tbls: ∀b F,H b=some (.tbl F)->∃more,H' b=some (.tbl (F++more))) (ns: ∀m,s.heap.Ns X.env.locals m->h'.Ns X.env.locals m) (hok:yS X.prog X.w H' h') (hg:AllBare g'):
  Inv X pins σ H' {s with heap:=h',gens:=g',drawn:=d',toks:=t'}:=by
 have E: ∀b o,X.s₀.heap.get? b=some o->b≠X.env.locals:=fun b o e=>Nat.ne_of_lt (Nat.lt_of_lt_of_le (Heap.lt_size e) I.ok.above);have y: ∀b o,X.s₀.heap.get? b=some o->b ∉ X.ex->b ∉ ch:=fun b o e hx hb=>by
  rcases(a b hb).1 with z|z
  ·trivial
  ·exact absurd (Nat.lt_of_lt_of_le (Heap.lt_size e) z) (Nat.lt_irrefl _)
 have cellK: ∀x c,X.env.cells.lookup x=some c->∀v,s.heap.IsCell c v->h'.IsCell c v:=fun x c e v ⟨o,ho,hd⟩=>by
  have j:=fun z=>(a c z).2.2.1 x c e rfl;by_cases hc:c∈X.fs
  ·
   obtain⟨O,q⟩:=slot c o (I.cne x c e) hc j ho (I.mU x c e);exact⟨_,q,hd⟩
  ·exact⟨o,keep c o (I.cne x c e) hc j ho (I.mU x c e),hd⟩
 refine⟨I.ok,I.os,hg,⟨fun b o e n hb hx=>?_,fun b o e n hb hx=>?_,fun b o e n hx=>?_,fun b o e hx=>?_,fun b xs e=>tups b xs (I.base.tups b xs e),fun b o xs e=>frzs b o xs (I.base.frzs b o xs e),fun b F e=>?_⟩,?_,fun x c e=>?_,?_,fun x c e=>?_,fun p P=>?_,hok,I.len⟩
 ·exact keep b o (E b o e) hb (y b o e hx) (I.base.keep b o e n hb hx) (I.base.free b o e n hx)
 ·
  obtain⟨O,B⟩:=I.base.slot b o e n hb hx;obtain⟨J,G⟩:=slot b _ (E b o e) hb (y b o e hx) B (I.base.free b o e n hx);exact⟨J,G⟩
 ·
  obtain⟨C,B⟩:=I.base.there b o e hx;exact free b C (y b o e hx) B (I.base.free b o e n hx)
 ·
  obtain⟨C,B⟩:=I.base.there b o e hx;exact there b C (y b o e hx) B
 ·
  obtain⟨U,B⟩:=I.base.tbls b F e;obtain⟨Z,G⟩:=tbls b _ B;exact⟨U++Z,by simp_all⟩
 ·
  obtain⟨m,hn,W⟩:=I.loc;refine⟨m,ns m hn,fun i x v B G Y=>?_⟩;obtain⟨u,r,l⟩:=W i x v B G Y;refine⟨u,r,?_⟩;rcases l with l|⟨k,c,e,z⟩
  ·exact .inl l
  ·exact .inr ⟨k,c,e,cellK x c e _ z⟩
 ·
  obtain⟨v,z⟩:=I.cell x c e;exact⟨v,cellK x c e v z⟩
 ·
  obtain⟨m,⟨o,_,_,ho,_⟩,_⟩:=I.loc;exact free _ o (fun z=>(a _ z).2.1 rfl) ho I.free
 ·
  obtain⟨v,o,ho,hd⟩:=I.cell x c e;exact free c o (fun z=>(a c z).2.2.1 x c e rfl) ho (I.mU x c e)
 ·
  obtain⟨e,n,ne,Q,d⟩:=I.pin p P;have j:=fun z=>(a _ z).2.2.2 p P rfl;exact⟨keep _ _ ne Q j e n,free _ _ j e n,ne,Q,d⟩
theorem Inv.un (I:Inv X pins σ H s) (u:Un X.fs [] H H' s.heap h') (hok:yS X.prog X.w H' h'):Inv X pins σ H' {s with heap:=h',toks:=t'}:=by
 obtain⟨m,⟨o,B,y,ho,r⟩,_⟩:=id I.loc;obtain⟨x,j⟩:=u.any ho I.free (by simp);exact I.step (ch:=[]) (fun _ z=>nomatch z) (fun b o _ hb _ e n=>u.keep b o e n hb (by simp)) (fun b o _ hb _ e n=>u.slot b o e n hb (by simp)) (fun b o _ e n=>u.free b o e n (by simp)) (fun b o _ e=>u.there b o e (by simp)) u.tups u.frzs u.tbls (fun E hm=>by
  obtain⟨C,i,d,a,v⟩:=hm;rw[ho] at a;cases a;exact⟨_,i,d,j,v⟩) hok I.bare
theorem Inv.call {ch:List Addr} (I:Inv X pins σ H s) (u:Un (frs X.stack) ch H H' s.heap h') (hok:yS X.prog X.w H' h') (hg:AllBare g') (a: ∀b∈ch,(b∈X.ex\/X.s₀.heap.objs.size<=b)/\b≠X.env.locals/\(∀x c,X.env.cells.lookup x=some c->c≠b)/\∀p∈X.pn++pins,p.1≠b):
  Inv X pins σ H' {s with heap:=h',gens:=g',drawn:=d',toks:=t'}:=by
 obtain⟨m,⟨o,E,C,ho,r⟩,_⟩:=id I.loc;obtain⟨B,j⟩:=u.any ho I.free fun z=>(a _ z).2.1 rfl;exact I.step a (fun b o j hb hc e n=>u.keep b o e n (fun z=>(List.mem_cons.mp (I.zk b z)).elim j hb) hc) (fun b o _ _ hc e n=>u.any e n hc) (fun b o hc e n=>u.free b o e n hc) (fun b o hc e=>u.there b o e hc) u.tups u.frzs u.tbls (fun G hm=>by
  obtain⟨F,v,i,d,y⟩:=hm;rw[ho] at d;cases d;exact⟨_,v,i,j,y⟩) hok hg
theorem Inv.turned (I:Inv X pins σ H s) (k: ∀b o,b≠it->s.heap.get? b=some o->h'.get? b=some o) (hn:H it=none) (a:it≠X.env.locals) (h1:it∈X.ex\/X.s₀.heap.objs.size<=it) (d: ∀x c,X.env.cells.lookup x=some c->c≠it) (y: ∀p∈X.pn++pins,p.1≠it):Inv X pins σ H {s with heap:=h',toks:=t'}:=by
 have B: ∀b u,H b=some u->b≠it:=fun b u e z=>by simp_all
 refine I.step (ch:=[it]) (fun b hb=>?_) (fun b o _ _ hc e _=>k b o (fun z=>hc (by simp[z])) e) (fun b o _ _ hc e _=>⟨_,k b o (fun z=>hc (by simp[z])) e⟩) (fun _ _ _ _ n=>n)
  (fun b o hc e=>⟨o,k b o (fun z=>hc (by simp[z])) e⟩) (fun _ _ e=>e) (fun _ _ _ e=>e) (fun b C e=>⟨#[],‹_›⟩) (fun m hm=>?_) (fun b u e=>?_) I.bare
 ·
  have e:b=it:=by simp_all
  subst e;exact⟨h1,a,d,y⟩
 ·
  obtain⟨o,j,i,ho,r⟩:=hm;exact⟨o,j,i,k _ o (Ne.symm a) ho,r⟩
 ·
  refine(I.hok b u e).stay (fun c v hc q=>k c v ?_ q) (fun _ q=>q) fun _ _ q=>q;rcases hc with z|z
  ·simp_all
  ·simp_all
theorem Inv.tok (I:Inv X pins σ H s) (t:Nat):Inv X pins σ H {s with toks:=t}:=I.un Un.refl I.hok
theorem Inv.kept (I:Inv X pins σ H s) (k: ∀b u,s.heap.get? b=some u->h'.get? b=some u):Inv X pins σ H {s with heap:=h',toks:=t'}:=I.un (Un.kept k) (I.hok.kept k)
theorem Inv.laid (I:Inv X pins σ H s) (k: ∀b u,s.heap.get? b=some u->h'.get? b=some u) (d:s.heap.objs.size<=a) (new:jD X.prog X.w (upd H a o) h' a o):
  Inv X pins σ (upd H a o) {s with heap:=h',toks:=t'}:=I.un (Un.laid k d (I.hok.fresh d)) (I.hok.laid k d new)
theorem Inv.write (I:Inv X pins σ H s) (d:Mut (H x)) (he:e=x\/H e=some (.own x)) (k: ∀b u,b≠e->s.heap.get? b=some u->h'.get? b=some u) (a: ∃u,h'.get? e=some u) (new:jD X.prog X.w (upd H x o) h' x o):Inv X pins σ (upd H x o) {s with heap:=h',toks:=t'}:=I.un (Un.write d he k a) (I.hok.write d he k a new)
theorem Inv.yV (I:Inv X pins σ H s) (h: ∀p∈pins',s.heap.get? p.1=some p.2/\H p.1=none/\p.1≠X.env.locals/\p.1 ∉ X.fs/\∀v,p.2.data≠ .cell v):Inv X pins' σ H s:=
 ⟨I.ok,I.os,I.bare,I.base,I.loc,I.cell,I.free,I.mU,fun p a=>(List.mem_append.mp a).elim (fun z=>I.pin p (List.mem_append_left _ z)) (h p),I.hok,I.len⟩
theorem zR {N:List Str} {j:Nat} (d:N.Nodup) (a:N[i]?=some x) (b:N[j]?=some x):i=j:=by
 obtain⟨h1,m⟩:=List.getElem?_eq_some_iff.mp a;obtain⟨s,n⟩:=List.getElem?_eq_some_iff.mp b;exact(List.getElem_inj d).mp (m.trans n.symm)
theorem BJ (I:Inv X pins σ H s) (hN:X.N.Nodup) (U:X.N[i]?=some x) (hx:Loc X.env.scope x) (r:RelV v u) (h: ∀s',Inv X pins (σ.set i (some v)) H s'->(∃a,Heap.SameBut a s.heap s'.heap/\(a=X.env.locals\/X.env.cells.lookup x=some a))->Q () s') (hf:X.fn x=true\/X.env.scope.names.lookup x=some .local:=by first|exact .inl rfl|exact .inr rfl|assumption):wpAny M A (storeName X.env x u) Q E s:=by
 obtain⟨m,hn,hl⟩:=id I.loc;have P:(X.env.scope.kind == .class||(X.env.scope.kind == .module&&X.env.locals != X.env.globals))=false:=by rw[I.ok.kind];rfl
 have G:i<σ.length:=by rw[I.len];exact(List.getElem?_eq_some_iff.mp U).1
 have cne:=I.cne;have tracked: ∀{a:Addr} {h':Heap},(∃o,s.heap.get? a=some o/\H a=none)->Heap.SameBut a _ h'->yS _ _ H h':=fun{a h'} ha B b ob e=>by
  refine(I.hok b ob e).stay (fun c Z hc q=>(B.2 c ?_).trans q) (fun _ q=>q) fun _ _ q=>q;rintro rfl;rcases hc with rfl|hc
  ·simp_all
  ·simp_all
 rcases hx with hk|hk
 ·
  refine wpAny_storeName_local hk hn (fun h' hn' B=>?_) P;obtain⟨oL,_,_,hoL,_⟩:=id hn;refine h _ ⟨I.ok,I.os,I.bare,⟨fun b o e n hb hx=>?_,fun b o e n hb hx=>?_,I.base.free,fun b o e hx=>?_,I.base.tups,I.base.frzs,I.base.tbls⟩,⟨_,hn',fun j y v' C F e3=>?_⟩,fun y c e=>?_,I.free,I.mU,fun p hp=>?_,tracked ⟨oL,hoL,I.free⟩ B,by simpa using I.len⟩ ⟨_,B,.inl rfl⟩
  ·exact(B.2 b (Nat.ne_of_lt (Nat.lt_of_lt_of_le (Heap.lt_size e) I.ok.above))).trans (I.base.keep b o e n hb hx)
  ·
   obtain⟨sl,C⟩:=I.base.slot b o e n hb hx;exact⟨sl,(B.2 b (Nat.ne_of_lt (Nat.lt_of_lt_of_le (Heap.lt_size e) I.ok.above))).trans C⟩
  ·
   obtain⟨o',C⟩:=I.base.there b o e hx;exact⟨o',(B.2 b (Nat.ne_of_lt (Nat.lt_of_lt_of_le (Heap.lt_size e) I.ok.above))).trans C⟩
  ·
   by_cases O:j=i
   ·
    subst O;rw[U] at C;cases C;rw[List.getElem?_set_self G] at F;cases F;exact⟨u,r,.inl ⟨hk,by simp⟩⟩
   ·
    rw[List.getElem?_set_ne (Ne.symm O)] at F;obtain⟨u',r',q⟩:=hl j y v' C F e3;refine⟨u',r',?_⟩;rcases q with⟨k,e⟩|⟨k,c,e,z⟩
    ·
     refine .inl ⟨k,?_⟩;have:y≠x:=fun e=>O (zR hN C (e▸U));simp[this,e]
    ·exact .inr ⟨k,c,e,z.sameBut B (cne y c e)⟩
  ·
   obtain⟨Z,z⟩:=I.cell y c e;exact⟨Z,z.sameBut B (cne y c e)⟩
  ·
   obtain⟨e,n,ne,nf,d⟩:=I.pin p hp;exact⟨(B.2 _ ne).trans e,n,ne,nf,d⟩
 ·have J:X.fn x=true:=by
   simp_all
  obtain⟨c,hc⟩:=I.ok.has x (.inl hk);obtain⟨Z,z⟩:=I.cell x c hc;refine wpAny_storeName_cell I.ok.kind hk hc z (fun h' Y B=>?_);obtain⟨oc,hoc,hocd⟩:=id z;refine h _ ⟨I.ok,I.os,I.bare,⟨fun b o e n hb hx=>?_,fun b o e n hb hx=>?_,I.base.free,fun b o e hx=>?_,I.base.tups,I.base.frzs,I.base.tbls⟩,⟨m,hn.sameBut B (Ne.symm (cne x c hc)),fun j y v' C F e3=>?_⟩,fun y c' e=>?_,I.free,I.mU,fun p hp=>?_,tracked ⟨oc,hoc,I.mU x c hc⟩ B,by simpa using I.len⟩ ⟨c,B,.inr hc⟩
  ·exact(B.2 b (Nat.ne_of_lt (Nat.lt_of_lt_of_le (Heap.lt_size e) (I.ok.cab x c J hc)))).trans (I.base.keep b o e n hb hx)
  ·
   obtain⟨sl,C⟩:=I.base.slot b o e n hb hx;exact⟨sl,(B.2 b (Nat.ne_of_lt (Nat.lt_of_lt_of_le (Heap.lt_size e) (I.ok.cab x c J hc)))).trans C⟩
  ·
   obtain⟨o',C⟩:=I.base.there b o e hx;exact⟨o',(B.2 b (Nat.ne_of_lt (Nat.lt_of_lt_of_le (Heap.lt_size e) (I.ok.cab x c J hc)))).trans C⟩
  ·
   by_cases O:j=i
   ·
    subst O;rw[U] at C;cases C;rw[List.getElem?_set_self G] at F;cases F;exact⟨u,r,.inr ⟨.inl hk,c,hc,Y⟩⟩
   ·
    rw[List.getElem?_set_ne (Ne.symm O)] at F;obtain⟨u',r',q⟩:=hl j y v' C F e3;refine⟨u',r',?_⟩;rcases q with q|⟨k,c',e,z'⟩
    ·exact .inl q
    ·
     refine .inr ⟨k,c',e,z'.sameBut B ?_⟩;rintro rfl;exact O (zR hN C (I.ok.inj _ _ _ e hc▸U))
  ·
   by_cases W:c'=c
   ·subst W;exact⟨_,Y⟩
   ·
    obtain⟨w2,z2⟩:=I.cell y c' e;exact⟨w2,z2.sameBut B W⟩
  ·
   obtain⟨e,n,ne,nf,d⟩:=I.pin p hp;refine⟨(B.2 _ ?_).trans e,n,ne,nf,d⟩;intro q;exact d Z (by simp_all)
theorem uP (I:Inv X pins σ H s) (d:X.N.Nodup) (j:X.N[i]?=some x) (hx:Loc X.env.scope x) (r:RelV v u) (h: ∀a,Inv X pins (σ.set i (some v)) H a->Q () a) (hf:X.fn x=true\/X.env.scope.names.lookup x=some .local:=by first|exact .inl rfl|exact .inr rfl|assumption):wpAny M A (storeName X.env x u) Q E s:=
 BJ I d j hx r (fun a m _=>h a m) hf
theorem Inv.call' {ch:List Addr} (I:Inv X pins σ H s) (ho:s'.os=s.os) (u:Un (frs X.stack) ch H H' s.heap s'.heap) (hok:yS X.prog X.w H' s'.heap) (hg:AllBare s'.gens) (a: ∀b∈ch,(b∈X.ex\/X.s₀.heap.objs.size<=b)/\b≠X.env.locals/\(∀x c,X.env.cells.lookup x=some c->c≠b)/\∀p∈X.pn++pins,p.1≠b):Inv X pins σ H' s':=by
 obtain⟨h',g',d',t',d⟩:=s';have e:=ho;subst e;exact I.call u hok hg a
end
noncomputable abbrev XK:=Value->Option Addr->Hp->Prop
noncomputable abbrev St:=List (Option V)
noncomputable abbrev VK:=V->Hp->Prop
noncomputable abbrev TE:=St->Hp->VK->Prop
noncomputable abbrev TT:=St->Hp->(Bool->Hp->Prop)->Prop
noncomputable abbrev TA:=St->Hp->(List V->Hp->Prop)->Prop
structure Ends where
 nx:St->Hp->Prop
 rt:VK
 bk:St->Hp->Prop:=fun _ _=>False
 ct:St->Hp->Prop:=fun _ _=>False
noncomputable abbrev TS:=Ends->St->Hp->Prop
def EP (X:Cx) (a:List (Addr×Obj)) (σ:St) (Q:VK) (u:Value) (d:Shared):Prop:= ∃v H',Inv X a σ H' d/\RelV v u/\Q v H'
def TP (X:Cx) (a:List (Addr×Obj)) (σ:St) (Q:Bool->Hp->Prop) (b:Bool) (d:Shared):Prop:= ∃H',Inv X a σ H' d/\Q b H'
def AP (X:Cx) (a:List (Addr×Obj)) (σ:St) (Q:List V->Hp->Prop) (us:List Value) (d:Shared):Prop:= ∃vs H',Inv X a σ H' d/\Vals vs us/\Q vs H'
def SP (X:Cx) (d:List (Addr×Obj)) (D:Ends) (f:Flow) (i:Shared):Prop:=
 match f with
 | .next=> ∃a H',Inv X d a H' i/\D.nx a H'
 | .brk=> ∃a H',Inv X d a H' i/\D.bk a H'
 | .cont=> ∃a H',Inv X d a H' i/\D.ct a H'
 | .ret u=> ∃v a H',Inv X d a H' i/\RelV v u/\D.rt v H'
def PE (X:Cx) (e:Expr) (t:TE):Prop:=
 ∀(a:List (Addr×Obj)) (s:Shared) (σ:St) (H:Hp) (Q:VK),Inv X a σ H s->t σ H Q->wpAny (model X.prog X.w) X.A (eval e X.env) (EP X a σ Q) X.xe s
def PT (X:Cx) (e:Expr) (t:TT):Prop:=
 ∀(a:List (Addr×Obj)) (s:Shared) (σ:St) (H:Hp) (Q:Bool->Hp->Prop),Inv X a σ H s->t σ H Q->wpAny (model X.prog X.w) X.A (isTrue e X.env (eval e X.env)) (TP X a σ Q) X.xe s
def PW (X:Cx) (e:Expr) (t:TT):Prop:=
 ∀(whole:Sem Value) (a:List (Addr×Obj)) (s:Shared) (σ:St) (H:Hp) (Q:Bool->Hp->Prop),Inv X a σ H s->t σ H Q->wpAny (model X.prog X.w) X.A (isTrue e X.env whole) (TP X a σ Q) X.xe s
theorem PW.pt (h:PW X e t):PT X e t:=h _
def PA (X:Cx) (d:List Expr) (t:TA):Prop:=
 ∀(pos:Pos) (a:List (Addr×Obj)) (s:Shared) (σ:St) (H:Hp) (Q:List V->Hp->Prop),Inv X a σ H s->t σ H Q->wpAny (model X.prog X.w) X.A (spliced (backTo pos (starEach d X.env))) (AP X a σ Q) X.xe s
def PS (X:Cx) (st:Stmt) (t:TS):Prop:=
 ∀(a:List (Addr×Obj)) (s:Shared) (σ:St) (H:Hp) (D:Ends),Inv X a σ H s->t D σ H->wpAny (model X.prog X.w) X.A (exec st X.env) (SP X a D) X.xe s
def ya (X:Cx) (st:List Stmt) (t:TS):Prop:=
 ∀(a:List (Addr×Obj)) (s:Shared) (σ:St) (H:Hp) (D:Ends),Inv X a σ H s->t D σ H->wpAny (model X.prog X.w) X.A (execs st X.env) (SP X a D) X.xe s
theorem thn {d:α->Shared->Prop} (h:wpAny M A t Q E s) (i: ∀a s,Q a s->d a s):wpAny M A t d E s:=wpAny_mono h i fun _ _ x=>x
theorem lY {α β d:Type} {t:Sem α} {F:α->Shared->β->d->Prop} {G:α->Shared->β->d->Prop} {J:α->Shared->β->d->Prop} {Q:α->Shared->Prop} {M:Model} {A:Around} {E:Value->Shared->Prop} {s:Shared} (h:wpAny M A t (fun a s=> ∃x y,F a s x y/\G a s x y/\J a s x y) E s) (k: ∀a s x y,F a s x y->G a s x y->J a s x y->Q a s):wpAny M A t Q E s:=thn h fun a s ⟨x,y,f,g,j⟩=>k a s x y f g j
section
variable {X:Cx} {a b:Expr} {pos:Pos} {tA tB':TT} {rest:List Expr}
def Ib (i:Nat):TE:=fun σ H Q=>match σ[i]? with
 |some (some v)=>Q v H
 |_=>False
theorem Mi (h:Ib i σ H Q): ∃v,σ[i]?=some (some v)/\Q v H:=by
 unfold Ib at h;split at h
 ·exact⟨_,by assumption,h⟩
 ·exact h.elim
def tC (v:V):TE:=fun _ H Q=>Q v H
theorem UU (z:X.N[i]?=some x) (B:Vis X.env.scope x) (hd:(x == ("__debug__" : Str))=false:=by decide) (j:(x == ("__classdict__" : Str))=false:=by decide):PE X (.Name x pos) (Ib i):=by
 intro n s σ H Q I h;obtain⟨v,e,h⟩:=Mi h;obtain⟨m,hn,y⟩:=I.loc;obtain⟨u,r,l⟩:=y i x v z e B;have fin:EP X _ σ Q u s:=⟨v,H,I,r,h⟩;rcases l with⟨hk,hm⟩|⟨hk,c,hc,d⟩
 ·exact wpAny_Name (wpAny_loadName_local I.ok.kind hk hn hm fin) hd
 ·
  rcases hk with hk|hk
  ·exact wpAny_Name (wpAny_loadName_cell I.ok.kind hk hc d fin) hd
  ·exact wpAny_Name (wpAny_loadName_free I.ok.kind hk hc d fin j) hd
theorem au {i j pos}:PE X (.Constant (.int i) j pos) (tC (.int i)):=fun _ _ _ H _ I h=>wpAny_Constant_int ⟨.int i,H,I.tok _,⟨_,rfl⟩,h⟩
theorem zH {b j pos}:PE X (.Constant (.bool b) j pos) (tC (.bl b)):=fun _ _ _ H _ I h=>Constant_bool ⟨.bl b,H,I,rfl,h⟩
theorem bh {j pos}:PE X (.Constant .none j pos) (tC .non):=fun _ _ _ H _ I h=>Constant_none ⟨.non,H,I,rfl,h⟩
theorem aT {x j pos}:PE X (.Constant (.str x) j pos) (tC (.str x)):=fun _ _ _ H _ I h=>Calls.Constant_str ⟨.str x,H,I.tok _,⟨_,rfl⟩,h⟩
def Gl (X:Cx) (x:Str):Prop:=X.env.kindOf x=some .globalImplicit
theorem jy (I:Inv X pins σ H s) (hg:Gl X x) (hm:X.mg x=some u) (h:Q u s) (hd:(x == ("__debug__" : Str))=false:=by decide):wpAny (model X.prog X.w) X.A (eval (.Name x pos) X.env) Q E s:=
 Calls.Name_function_global I.ok.kind hg (Calls.loadGlobal_global (by rw[I.ok.glob];exact I.mod.glob.keeps I.bk) hm h) hd
theorem t9 (I:Inv X pins σ H s) (hg:Gl X x) (hm:X.mg x=none) (i:bootBuiltins x=some u) (h:Q u s) (hn:x≠ "__name__" :=by decide) (hd:(x == ("__debug__" : Str))=false:=by decide):wpAny (model X.prog X.w) X.A (eval (.Name x pos) X.env) Q E s:=by
 obtain⟨j,h1,d⟩:=I.mod.blt;exact Calls.Name_function_global I.ok.kind hg (Calls.loadGlobal_builtin (by rw[I.ok.glob];exact I.mod.glob.keeps I.bk) hm (by rw[I.ok.blt];exact h1.keeps I.bk) ((d x hn).trans i) h) hd
theorem FR (hg:Gl X x) (hm:X.mg x=some u) (r:RelV v u) (hd:(x == ("__debug__" : Str))=false:=by decide):PE X (.Name x pos) (tC v):=
 fun _ _ _ H _ I h=>jy I hg hm ⟨v,H,I,r,h⟩ hd
theorem M8 (hg:Gl X x) (hm:X.mg x=none) (d:bootBuiltins x=some u) (r:RelV v u) (hn:x≠ "__name__" :=by decide) (hd:(x == ("__debug__" : Str))=false:=by decide):PE X (.Name x pos) (tC v):=
 fun _ _ _ H _ I h=>t9 I hg hm d ⟨v,H,I,r,h⟩ hn hd
def tB (t:TE):TT:=fun σ H Q=>t σ H fun x d=> ∃c,x = .bl c/\Q c d
theorem UK (h:PE X e t) (he: ∀whole,isTrue e X.env whole=(do let v<-whole;standAt e.pos;holding [v] (truthy v)):=by intro _;rfl):PT X e (tB t):=by
 intro i s σ H Q I hw;refine isTrue_plain (lY (h _ s σ H _ I hw) fun v s1 x m j n q1=>?_) (he _);obtain⟨d,rfl,q⟩:=q1;cases n;exact wpAny_truthy_bool ⟨m,j,q⟩
def X0 (t u:TT):TT:=fun σ H Q=>t σ H fun c d=>if c=true then u σ d Q else Q false d
def tOr (t u:TT):TT:=fun σ H Q=>t σ H fun c d=>if c=true then Q true d else u σ d Q
def XT (t:TT):TT:=fun σ H Q=>t σ H fun c d=>Q (!c) d
theorem pw_and1 (ha:PT X a tA):PW X (.BoolOp .And [a] pos) tA:=by
 intro i d s σ H Q I h;refine isTrue_and (thn (ha _ s σ H Q I h) fun c s1 e=>?_);cases c with
 |true=>exact isTrue_and_nil e
 |false=>exact e
theorem pw_or1 (ha:PT X a tA):PW X (.BoolOp .Or [a] pos) tA:=by
 intro i d s σ H Q I h;refine isTrue_or (thn (ha _ s σ H Q I h) fun c s1 e=>?_);cases c with
 |false=>exact isTrue_or_nil e
 |true=>exact e
theorem pw_and (ha:PT X a tA) (hb:PW X (.BoolOp .And (b::rest) pos) tB'):PW X (.BoolOp .And (a::b::rest) pos) (X0 tA tB'):=by
 intro i d s σ H Q I h;refine isTrue_and (thn (ha _ s σ H _ I h) fun c s1 ⟨m,j,q1⟩=>?_);cases c with
 |true=>exact hb i _ s1 σ m Q j q1
 |false=>trivial
theorem pw_or (ha:PT X a tA) (hb:PW X (.BoolOp .Or (b::rest) pos) tB'):PW X (.BoolOp .Or (a::b::rest) pos) (tOr tA tB'):=by
 intro i d s σ H Q I h;refine isTrue_or (thn (ha _ s σ H _ I h) fun c s1 ⟨m,j,q1⟩=>?_);cases c with
 |true=>trivial
 |false=>exact hb i _ s1 σ m Q j q1
theorem lA (ha:PT X a tA):PT X (.UnaryOp .Not a pos) (XT tA):=by
 intro d s σ H Q I h;exact isTrue_not (ha _ s σ H _ I h)
def N2 (i j:TE):TE:=fun σ H Q=>i σ H fun x d=> ∃c,x = .bl c/\if c=true then j σ d Q else Q (.bl false) d
def NZ (d:TE):TE:=fun σ H Q=>d σ H fun x i=> ∃c,x = .bl c/\Q (.bl (!c)) i
theorem jI {op} {t:TE} (h:PE X a t):PE X (.BoolOp op [a] pos) t:=fun d s σ H Q I hw=>BoolOp_one (h _ s σ H Q I hw)
theorem bH {d m:TE} (ha:PE X a d) (hb:PE X (.BoolOp .And (b::rest) pos) m):PE X (.BoolOp .And (a::b::rest) pos) (N2 d m):=by
 intro i s σ H Q I h;refine BoolOp_and (lY (ha _ s σ H _ I h) fun v s1 x n j u q1=>?_);obtain⟨c,rfl,q1⟩:=q1;cases u;refine wpAny_truthy_bool ?_;cases c with
 |true=>exact hb _ s1 σ n Q j q1
 |false=>exact⟨.bl _,n,j,rfl,q1⟩
theorem zF {d:TE} (ha:PE X a d):PE X (.UnaryOp .Not a pos) (NZ d):=by
 intro i s σ H Q I h;refine UnaryOp_ (lY (ha _ s σ H _ I h) fun v s1 x m j n q1=>?_);obtain⟨c,rfl,q1⟩:=q1;cases n;exact not_of (wpAny_truthy_bool ⟨.bl _,m,j,rfl,q1⟩)
def tIf (t:TT) (i j:TE):TE:=fun σ H Q=>t σ H fun c d=>if c=true then i σ d Q else j σ d Q
theorem jh {i n:TE} {c:Expr} (hc:PT X c tA) (ha:PE X a i) (hb:PE X b n):PE X (.IfExp c a b pos) (tIf tA i n):=by
 intro j s σ H Q I h;refine wpAny_IfExp (thn (hc _ s σ H _ I h) fun d s1 ⟨u,m,q1⟩=>?_);cases d with
 |true=>exact ha _ s1 σ u Q m q1
 |false=>exact hb _ s1 σ u Q m q1
end
def bO (K:W.Frag) (H:Hp) (a:Addr) (xs:List V):Prop:=
 Rd H a (.lst xs)\/
  ∃(o:Obj) (d:Array Value) (n:Nat),K.lookup a=some o/\o.cls = .type "list" /\o.dict=none/\o.data = .seq d n/\d.size<=sizeLine/\Vals xs d.toList
def n_ (K:W.Frag) (H:Hp) (a:Addr) (xs:List V):Prop:=
 Rd H a (.tup xs)\/
  ∃(o:Obj) (d:Array Value) (n:Nat),K.lookup a=some o/\o.cls = .type "tuple" /\o.data = .seq d n/\d.size<=sizeLine/\Vals xs d.toList
noncomputable def alL:Value->Option V
 | .none=>some .non
 | .bool b=>some (.bl b)
 | .int i _=>some (.int i)
 | .str x _=>some (.str x)
 | .bytes b _=>some (.byt b)
 | .float b _=>some (.flt b)
 | .ref a=>some (.ref a)
 | .type n=>some (.ty n)
 |_=>none
theorem RelV.abs (r:RelV x u):alL u=some x:=by
 cases x with
 |non=>cases r;rfl
 |bl _=>cases r;rfl
 |int _=>obtain⟨t,rfl⟩:=r;rfl
 |str _=>obtain⟨t,rfl⟩:=r;rfl
 |byt _=>obtain⟨t,rfl⟩:=r;rfl
 |flt _=>obtain⟨t,rfl⟩:=r;rfl
 |ref _=>cases r;rfl
 |ty _=>cases r;rfl
theorem RelV.inj (r:RelV x u) (q:RelV y u):x=y:=Option.some.inj (r.abs.symm.trans q.abs)
theorem Vals.inj: ∀{xs a:List V} {us:List Value},Vals xs us->Vals a us->xs=a
 |_,_,_,.nil,.nil=>rfl
 |_,_,_,.cons r t,.cons r' t'=>by rw[r.inj r',Vals.inj t t']
section
theorem bO.of {K:W.Frag} (h:H a=some (.lst xs)):bO K H a xs:= .inl (.inl h)
theorem n_.of {K:W.Frag} (h:H a=some (.tup xs)):n_ K H a xs:= .inl (.inl h)
theorem Inv.list (I:Inv X pins σ H s) (h:bO X.K H a xs): ∃d:List Value,Vals xs d/\PlainL s.heap a d.toArray/\xs.length<=sizeLine:=by
 rcases h with h|⟨o,d,n,hk,hc,hd,j,i,r⟩
 ·
  obtain⟨z,d,n,r,e⟩:=h.ok I.hok;exact⟨d,r,⟨_,n,e,rfl,rfl,rfl⟩,z⟩
 ·
  refine⟨_,r,⟨o,n,I.l9 a o hk,hc,hd,‹_›⟩,?_⟩;have e:=r.length;simp at e;lia
theorem Inv.tuple (I:Inv X pins σ H s) (h:n_ X.K H a xs): ∃d:List Value,Vals xs d/\IsTup s.heap a d.toArray/\xs.length<=sizeLine:=by
 rcases h with h|⟨o,d,n,hk,hc,j,i,r⟩
 ·
  obtain⟨z,d,r,p⟩:=h.ok I.hok;exact⟨d,r,p,z⟩
 ·
  refine⟨_,r,⟨o,I.l9 a o hk,hc,n,‹_›⟩,?_⟩;have e:=r.length;simp at e;lia
theorem Inv.D5 (I:Inv X pins σ H s) (h:bO X.K H a xs) (h':bO X.K H a ys):xs=ys:=by
 obtain⟨j,r,⟨o,n,e,_,_,d⟩,_⟩:=I.list h;obtain⟨i,u,⟨x,v,m,_,_,d'⟩,_⟩:=I.list h';rw[e] at m;cases m;have:j=i:=by simp_all
 subst this;exact r.inj u
theorem Inv.BF (I:Inv X pins σ H s) (h:n_ X.K H a xs) (h':n_ X.K H a ys):xs=ys:=by
 obtain⟨j,r,⟨o,e,_,n,d⟩,_⟩:=I.tuple h;obtain⟨i,u,⟨x,m,_,v,d'⟩,_⟩:=I.tuple h';rw[e] at m;cases m;have:j=i:=by simp_all
 subst this;exact r.inj u
end
noncomputable abbrev Cx.wish (X:Cx) (E:Value->Shared->Prop):Cx:={X with xe:=E}
noncomputable abbrev Cx.nox (X:Cx):Cx:=X.wish fun _ _=>False
theorem Cx.Ok.wish {X:Cx} (ok:X.Ok) (E:Value->Shared->Prop):(X.wish E).Ok:=
 ⟨ok.mod,ok.kind,ok.glob,ok.blt,ok.above,ok.inj,ok.has,ok.cab,ok.hd,ok.frames,ok.stk,ok.exf,ok.bs,ok.bsz,ok.noex,ok.exfs,ok.funs,ok.frf⟩
theorem Cx.Ok.unwish {X:Cx} (ok:(X.wish E).Ok):X.Ok:=
 ⟨ok.mod,ok.kind,ok.glob,ok.blt,ok.above,ok.inj,ok.has,ok.cab,ok.hd,ok.frames,ok.stk,ok.exf,ok.bs,ok.bsz,ok.noex,ok.exfs,ok.funs,ok.frf⟩
section
theorem Inv.wish (I:Inv X pins σ H s) (E:Value->Shared->Prop):Inv (X.wish E) pins σ H s:=⟨I.ok.wish E,I.os,I.bare,I.base,I.loc,I.cell,I.free,I.mU,I.pin,I.hok,I.len⟩
theorem Inv.unwish (I:Inv (X.wish E) pins σ H s):Inv X pins σ H s:=⟨I.ok.unwish,I.os,I.bare,I.base,I.loc,I.cell,I.free,I.mU,I.pin,I.hok,I.len⟩
theorem SP.unwish (h:SP (X.wish E) pins D f s'):SP X pins D f s':=by
 cases f with
 |next=>obtain⟨a,H',I,q⟩:=h;exact⟨a,H',I.unwish,q⟩
 |brk=>obtain⟨a,H',I,q⟩:=h;exact⟨a,H',I.unwish,q⟩
 |cont=>obtain⟨a,H',I,q⟩:=h;exact⟨a,H',I.unwish,q⟩
 |ret u=>obtain⟨v,a,H',I,r,q⟩:=h;exact⟨v,a,H',I.unwish,r,q⟩
theorem PT.nox (h:PT X.nox e t):PT X e t:=fun a s σ H Q I hw=>
 wpAny_mono (h _ s σ H Q (I.wish _) hw) (fun _ _ ⟨H',d,q⟩=>⟨H',d.unwish,q⟩) fun _ _ z=>False.elim z
theorem ya.nox {st:List Stmt} (h:ya X.nox st t):ya X st t:=fun a s σ H D I hw=>
 wpAny_mono (h _ s σ H D (I.wish _) hw) (fun _ _ q=>q.unwish) fun _ _ z=>False.elim z
end
section
variable {st:Stmt}
def N0:TS:=fun D σ H=>D.nx σ H
def Uw (t u:TS):TS:=fun D σ H=>t {D with nx:=u D} σ H
theorem bc:ya X [] N0:=fun _ _ σ H _ I h=>wpAny_execs_nil ⟨σ,H,I,h⟩
theorem ae {rest:List Stmt} (h1:PS X st t) (i:ya X rest u):ya X (st::rest) (Uw t u):=by
 intro a s σ H D I h;refine wpAny_execs_cons (thn (h1 _ s σ H _ I h) fun f s1 q=>?_);cases f with
 |next=>
  obtain⟨d,H',j,q⟩:=q;exact i _ s1 _ H' D j q
 |ret v=>exact q
 |brk=>exact q
 |cont=>exact q
theorem aj (h1:PS X st t):ya X [st] t:=by
 intro a s σ H D I h;refine wpAny_execs_cons (thn (h1 _ s σ H D I h) fun f s1 q=>?_);cases f with
 |next=>exact wpAny_execs_nil q
 |ret v=>exact q
 |brk=>exact q
 |cont=>exact q
theorem Inv.quiet (I:Inv X pins σ H s):interactive X.env=false:=by simp[interactive,I.ok.kind]
def Ik (a:TE):TS:=fun D σ H=>a σ H fun _ d=>D.nx σ d
theorem MU (he:PE X e te) (d:swapsWith e none pos.line X.env=pure false:=by rfl):PS X (.Expr e pos) (Ik te):=by
 intro a s σ H D I h;exact wpAny_Expr_any (lY (he _ s σ H _ I h) fun v s1 x j i m q1=>⟨σ,j,i,q1⟩) I.quiet d
def XS (a:TE):TS:=fun D σ H=>a σ H D.rt
theorem aF (he:PE X e te):PS X (.Return (some e) pos) (XS te):=by
 intro a s σ H D I h;exact wpAny_Return_some (lY (he _ s σ H _ I h) fun v s1 x i d j q1=>⟨x,σ,i,d,j,q1⟩)
def XX (c:TT) (t u:TS):TS:=fun D σ H=>c σ H fun b a=>if b=true then t D σ a else u D σ a
theorem bG (hc:PT X c tc) (ha:ya X a t) (hb:ya X b u):PS X (.If c a b pos) (XX tc t u):=by
 intro i s σ H D I h;refine wpAny_If (thn (hc _ s σ H _ I h) fun d s1 ⟨m,j,q1⟩=>?_);cases d with
 |true=>exact ha _ s1 σ m D j q1
 |false=>exact hb _ s1 σ m D j q1
end
noncomputable abbrev TG:=V->St->Hp->(St->Hp->Prop)->Prop
noncomputable abbrev Uj:=List V->St->Hp->(St->Hp->Prop)->Prop
def PG (X:Cx) (target:Expr) (t:TG):Prop:=
 ∀(a:List (Addr×Obj)) (s:Shared) (σ:St) (H:Hp) (v:V) (u:Value) (Q:St->Hp->Prop),Inv X a σ H s->RelV v u->t v σ H Q->
  wpAny (model X.prog X.w) X.A (assign target X.env u) (fun _ i=> ∃d H',Inv X a d H' i/\Q d H') X.xe s
def L9 (X:Cx) (i:List Expr) (t:Uj):Prop:=
 ∀(a:List (Addr×Obj)) (s:Shared) (σ:St) (H:Hp) (vs:List V) (us:List Value) (Q:St->Hp->Prop),Inv X a σ H s->Vals vs us->t vs σ H Q->
  wpAny (model X.prog X.w) X.A (assignInOrder ((assignEach i X.env).map (·.2)) us) (fun _ j=> ∃d H',Inv X a d H' j/\Q d H') X.xe s
noncomputable abbrev ahu:=V->V->V->Hp->(Hp->Prop)->Prop
def NT (X:Cx) (t:ahu):Prop:=
 ∀(a:List (Addr×Obj)) (s:Shared) (σ:St) (H:Hp) (o i v:V) (d j u:Value) (Q:Hp->Prop),Inv X a σ H s->RelV o d->RelV i j->RelV v u->t o i v H Q->
  wpAny (model X.prog X.w) X.A (setItem d j u) (fun _ m=> ∃H',Inv X a σ H' m/\Q H') X.xe s
section
def pP (i:Nat):TG:=fun v σ H Q=>Q (σ.set i (some v)) H
theorem M0 (d:X.N.Nodup) (j:X.N[i]?=some x) (hx:Loc X.env.scope x) (hf:X.fn x=true\/X.env.scope.names.lookup x=some .local:=by first|exact .inl rfl|exact .inr rfl|assumption):PG X (.Name x pos) (pP i):=by
 intro a s σ H v u Q I r h;exact wpAny_assign_Name (uP I d j hx r (fun n m=>⟨_,H,m,h⟩) hf)
def ahf:Uj:=fun vs σ H Q=>vs= []/\Q σ H
def Lx (t:TG) (u:Uj):Uj:=fun vs σ H Q=> ∃v r,vs=v::r/\t v σ H fun a H'=>u r a H' Q
theorem sU:L9 X [] ahf:=by
 intro a s σ H vs us Q I r h;obtain⟨e,h⟩:=h;exact assignInOrder_nil ⟨σ,H,I,h⟩
theorem Jf (h1:PG X e t) (i:L9 X es u) (m:(assignEach (e::es) X.env).map (·.2)=assign e X.env::(assignEach es X.env).map (·.2):=by rfl):L9 X (e::es) (Lx t u):=by
 intro a s σ H vs us Q I r h;obtain⟨v,z,j,h⟩:=h;subst j;cases r with
 |cons r d=>
  rw[m];refine assignInOrder_cons (thn (h1 _ s σ H _ _ _ I r h) fun _ s1 ⟨y,x,n,q1⟩=>?_);exact i _ s1 _ x _ _ Q n d q1
def Xd (K:W.Frag) (n:Nat) (t:Uj):TG:=fun v σ H Q=> ∃a xs,v = .ref a/\n_ K H a xs/\xs.length=n/\t xs σ H Q
theorem UR (hc:X.calm=true) (h:L9 X es t) (hn:(assignEach es X.env).length=n:=by rfl) (d:(assignEach es X.env).findIdx? (·.1)=none:=by rfl):PG X (.Tuple es k pos) (Xd X.K n t):=by
 intro i s σ H v u Q I r hw;obtain⟨a,xs,x,z,j,hw⟩:=hw;subst x;cases r;obtain⟨m,B,ht,C⟩:=I.tuple z;refine assign_Tuple_tuple (I.ok.hd hc) ht (by simp[hn,<-j,B.length]) d fun h' hx=>?_;have y:=I.kept (t':=s.toks) fun b o e=>hx b o (Nat.ne_of_lt (Heap.lt_size e)) e;exact h _ _ σ H xs _ Q y (‹_›) hw
def Xe (to d:TE) (t:ahu):TG:=fun v σ H Q=>to σ H fun o m=>d σ m fun i a=>t o i v a fun j=>Q σ j
theorem US (ho:PE X o to) (z:PE X i ti) (B:NT X t) (ha: ∀v,assign (.Subscript o i pos) X.env v=(do
   let a<-holding [v] (eval o X.env);let d<-holding [v,a] (eval i X.env)
   standAt pos
   holding [v,a,d] (setItem a d v)
   release [v,a,d] []):=by intro _;rfl):PG X (.Subscript o i pos) (Xe to ti t):=by
 intro j s σ H v u Q I r h;rw[ha];refine wpAny_bind (wpAny_holding (lY (ho _ s σ H _ I h) fun a s1 x F C P q1=>?_));refine wpAny_bind (wpAny_holding (lY (z _ s1 σ F _ C q1) fun d m y G n J q2=>?_));refine wpAny_bind (wpAny_standAt (wpAny_bind (wpAny_holding (thn (B _ m σ G x y v a d u _ n P J r q2) fun _ U ⟨E,O,q3⟩=>?_))));exact wpAny_release ⟨σ,E,O,q3⟩
def DF (a:TE) (g:TG):TS:=fun D σ H=>a σ H fun x d=>g x σ d D.nx
theorem UM (he:PE X e te) (hg:PG X tg g) (d:swapsWithSole [tg] e pos.line X.env=pure false:=by rfl) (hw:swappedStores [tg] e X.env=pure none:=by rfl) (h1:(assignEach [tg] X.env).map (·.2)= [assign tg X.env]:=by rfl):PS X (.Assign [tg] e pos) (DF te g):=by
 intro a s σ H D I h;refine wpAny_Assign_stores (lY (he _ s σ H _ I h) fun v s1 x j i m q1=>?_) d hw;rw[h1];exact thn (hg _ s1 σ j x v _ i m q1) fun _ n q=>q
theorem UL (d:X.N.Nodup) (m:X.N[i]?=some x) (hx:Loc X.env.scope x) (he:PE X e te) (n:swapsWith e (some (.Name x pos')) pos.line X.env=pure false:=by rfl) (hf:X.fn x=true\/X.env.scope.names.lookup x=some .local:=by first|exact .inl rfl|exact .inr rfl|assumption):
  PS X (.Assign [.Name x pos'] e pos) (DF te (pP i)):=by
 intro a s σ H D I h;refine wpAny_Assign_Name (lY (he _ s σ H _ I h) fun v s1 y z u B q1=>?_) n;exact uP u d m hx B (fun C j=>⟨_,z,j,q1⟩) hf
end
section
def Uu (c:TT) (j:TS):TS:=fun D σ H=> ∃W:Nat->St->Hp->Prop,(∃m,W m σ H)/\∀m σ H,W m σ H->
 c σ H fun b i=>if b=true then∃N:St->Hp->Prop,(∀a H',N a H'->∃d,d<m/\W d a H')/\j {D with nx:=N,ct:=N,bk:=D.nx} σ i else D.nx σ i
theorem Jc (F:PassesOwn (model X.prog X.w) X.A X.env X.xe) (hc:PT X c tc) (hb:ya X body tb):PS X (.While c body [] pos) (Uu tc tb):=by
 intro C s σ H D I h;obtain⟨W,⟨Y,Q⟩,turn⟩:=h;refine wpAny_While (codeAny_whileLoop (fun n O=> ∃d H',Inv X _ d H' O/\W n d H') ?_ Y ⟨σ,H,I,Q⟩);rintro n s1 ⟨m,E,P,U⟩;refine wpAny_passesOwn F (thn (hc _ s1 _ E _ P (turn n _ E U)) fun b J ⟨G,B,q2⟩=>?_);cases b with
 |true=>
  obtain⟨N,z,q2⟩:=q2;refine wpAny_passesOwn F (thn (hb _ J _ G _ B q2) fun f Z q3=>?_);cases f with
  |next=>
   obtain⟨a,i,u,j⟩:=q3;obtain⟨y,hm,x⟩:=z _ i j;exact⟨y,hm,a,i,u,x⟩
  |cont=>
   obtain⟨a,i,u,j⟩:=q3;obtain⟨y,hm,x⟩:=z _ i j;exact⟨y,hm,a,i,u,x⟩
  |brk=>exact q3
  |ret v=>exact q3
 |false=>
  exact wpAny_execs_nil ⟨m,G,B,q2⟩
end
structure It where
 go:Nat->Hp->Prop
 yld:Nat->Hp->V->Hp->Prop
 stop:Nat->Hp->Prop
def xK (X:Cx) (a:List (Addr×Obj)) (H:Hp) (b:Addr):Prop:=
 H b=none/\b≠X.env.locals/\b ∉ X.fs/\(b∈X.ex\/X.s₀.heap.objs.size<=b)/\(∀x c,X.env.cells.lookup x=some c->c≠b)/\∀p∈X.pn++a,p.1≠b
theorem Inv.Dh (I:Inv X pins σ H s) (hb:s.heap.objs.size<=b) (hn:H' b=none):xK X pins H' b:=by
 refine⟨hn,Nat.ne_of_gt (Nat.lt_of_lt_of_le I.lt hb),I.nofs hb,.inr (Nat.le_trans I.sz hb),fun x c e z=>?_,fun p a z=>?_⟩
 ·
  obtain⟨v,q⟩:=I.cell x c e;exact absurd (Nat.lt_of_lt_of_le q.lt (by simp_all)) (Nat.lt_irrefl _)
 ·exact absurd (Nat.lt_of_lt_of_le (Heap.lt_size (I.pin p a).1) (by simp_all)) (Nat.lt_irrefl _)
structure Turn (P:Program) (w:World) (K:W.Frag) (tg:Expr) (J:It) (fp:List Addr) (it:Addr) (tn:Nat->Heap->Prop):Prop where
 mem:it∈fp
 obj: ∀i h,tn i h->∀b∈fp,∃o,h.get? b=some o/\∀v,o.data≠ .cell v
 keep: ∀i h h',tn i h->(∀b∈fp,∀o,h.get? b=some o->h'.get? b=some o)->tn i h'
 item: ∀(X:Cx),X.prog=P->X.w=w->X.K=K->X.calm=true->∀(i:Nat) (pins:List (Addr×Obj)) (s:Shared) (σ:St) (H:Hp) (E:Value->Shared->Prop),Inv X pins σ H s->(∀b∈fp,xK X pins H b)->tn i s.heap->J.go i H->
  wpAny (model P w) X.A (pyNext (.ref it)) (fun r s1=> ∃u,r=some u/\
   wpAny (model P w) X.A (letOwnedTupleGo tg (.ref it) u) (fun _ s2=> ∃x H',Inv X pins σ H' s2/\RelV x u/\J.yld i H x H'/\tn (i+1) s2.heap/\∀b∈fp,H' b=none) E s1) E s
 done: ∀(X:Cx),X.prog=P->X.w=w->X.K=K->X.calm=true->∀(i:Nat) (pins:List (Addr×Obj)) (s:Shared) (σ:St) (H:Hp) (E:Value->Shared->Prop),Inv X pins σ H s->(∀b∈fp,xK X pins H b)->tn i s.heap->J.stop i H->
  wpAny (model P w) X.A (pyNext (.ref it)) (fun r s1=>r=none/\Inv X pins σ H s1) E s
 self: ∀(A:Around) (i:Nat) (s:Shared) (Q:Value->Shared->Prop) (E:Value->Shared->Prop),tn i s.heap->Q (.ref it) s->wpAny (model P w) A (pyIter (.ref it)) Q E s
noncomputable abbrev TI:=St->Hp->(It->Hp->Prop)->Prop
def PIE (X:Cx) (a:List (Addr×Obj)) (σ:St) (n:Expr) (R:It->Hp->Prop) (d:Value) (m:Shared):Prop:=
 ∃(it:Addr) (j:List Addr) (i:Nat->Heap->Prop) (J:It) (H':Hp),d = .ref it/\Inv X a σ H' m/\Turn X.prog X.w X.K n J j it i/\i 0 m.heap/\(∀b∈j,xK X a H' b)/\R J H'
def PI (X:Cx) (d iter:Expr) (wi:TI):Prop:=
 ∀(a:List (Addr×Obj)) (s:Shared) (σ:St) (H:Hp) (R:It->Hp->Prop),Inv X a σ H s->wi σ H R->
  wpAny (model X.prog X.w) X.A (eval iter X.env) (fun v s1=>wpAny (model X.prog X.w) X.A (pyIter v) (PIE X a σ d R) X.xe s1) X.xe s
theorem Gm (ho:s.heap.get? it=some o) (hc:o.cls = .type n) (hd:o.data = .fields vs) (hn: ["enumerate","zip","dict_itemiterator","dict_reverseitemiterator","odict_iterator","itertools.zip_longest","itertools.pairwise"].contains n=false) (a:Q () s):wpAny M A (letOwnedTupleGo tg (.ref it) u) Q E s:=by
  cases tg<;>first
    |exact wpAny_pure a
    |(cases u<;>first
        |exact wpAny_pure a
        |(
           refine wpAny_bind (wpAny_load ho ?_);rw[hc,hd];show wpAny M A (if(["enumerate","zip","dict_itemiterator","dict_reverseitemiterator","odict_iterator","itertools.zip_longest","itertools.pairwise"].contains n&&vs[0]? == some _)=true then _ else _) Q E s;rw[if_neg (by lia)];exact wpAny_pure a))
noncomputable def Itl (K:W.Frag) (a:Addr):It:=
 ⟨fun i H=> ∃xs x,bO K H a xs/\xs[i]?=some x,fun i H x H'=>H'=H/\∀xs,bO K H a xs->xs[i]?=some x,fun i H=> ∃xs,bO K H a xs/\xs.length<=i⟩
noncomputable def Itt (K:W.Frag) (a:Addr):It:=
 ⟨fun i H=> ∃xs x,n_ K H a xs/\xs[i]?=some x,fun i H x H'=>H'=H/\∀xs,n_ K H a xs->xs[i]?=some x,fun i H=> ∃xs,n_ K H a xs/\xs.length<=i⟩
noncomputable def NU (lo:Int) (n:Nat):It:=⟨fun i _=>i<n,fun i H x H'=>H'=H/\x = .int (lo+i),fun i _=>n<=i⟩
theorem GH {P:Program} {w:World} {K:W.Frag} {tg:Expr} (a it:Addr):Turn P w K tg (Itl K a) [it] it (fun i h=>h.IsListIter it a i) where
 mem:=by simp
 obj:=fun i h st b hb=>by
  have e:b=it:=by simp_all
  subst e;obtain⟨o,e,c,d⟩:=st;exact⟨o,e,fun v z=>by simp_all⟩
 keep:=fun i h h' st k=>st.at fun o e=>k it (by simp) o e
 item:=by
  intro X O hw C hc i j s σ H E I hf st hg;subst O hw C;obtain⟨xs,x,n,hx⟩:=hg;obtain⟨y,G,p,Z⟩:=I.list n;obtain⟨u,hu,Q⟩:=G.get hx;obtain⟨f0,f1,f2,J,F,B⟩:=hf it (by simp);refine wpAny_pyNext_list_item st p.isList (x:=u) (by simp_all) fun h' m sb=>?_;have Y:=I.turned (t':=s.toks) (fun b o hb e=>(sb.2 b hb).trans e) f0 f1 J F B;obtain⟨o,e,c,d⟩:=id m;exact⟨u,rfl,Gm e c d (by decide) ⟨x,H,Y,Q,⟨rfl,fun ys hy=>by rw[I.D5 hy n];exact hx⟩,m,fun b hb=>(hf b hb).1⟩⟩
 done:=by
  intro X O hw C hc i j s σ H E I hf st hg;subst O hw C;obtain⟨xs,n,hx⟩:=hg;obtain⟨y,G,p,Z⟩:=I.list n;obtain⟨f0,f1,f2,J,F,B⟩:=hf it (by simp);have hl:=G.length;exact wpAny_pyNext_list_end (I.ok.hd hc) st p.isList (by simp_all) fun h' U=>⟨rfl,I.turned (fun b o hb e=>U b o hb e) f0 f1 J F B⟩
 self:=fun _ _ _ _ _ st h=>wpAny_pyIter_listiter st h
theorem Eo {P:Program} {w:World} {K:W.Frag} {tg:Expr} (a it:Addr):Turn P w K tg (Itt K a) [it] it (fun i h=>h.IsTupleIter it a i) where
 mem:=by simp
 obj:=fun i h st b hb=>by
  have e:b=it:=by simp_all
  subst e;obtain⟨o,e,c,d⟩:=st;exact⟨o,e,fun v z=>by simp_all⟩
 keep:=fun i h h' st k=>st.at fun o e=>k it (by simp) o e
 item:=by
  intro X O hw C hc i j s σ H E I hf st hg;subst O hw C;obtain⟨xs,x,n,hx⟩:=hg;obtain⟨y,G,p,Z⟩:=I.tuple n;obtain⟨u,hu,Q⟩:=G.get hx;obtain⟨f0,f1,f2,J,F,B⟩:=hf it (by simp);refine wpAny_pyNext_tuple_item st ((p)) (x:=u) (by simp_all) fun h' m sb=>?_;have Y:=I.turned (t':=s.toks) (fun b o hb e=>(sb.2 b hb).trans e) f0 f1 J F B;obtain⟨o,e,c,d⟩:=id m;exact⟨u,rfl,Gm e c d (by decide) ⟨x,H,Y,Q,⟨rfl,fun ys hy=>by rw[I.BF hy n];exact hx⟩,m,fun b hb=>(hf b hb).1⟩⟩
 done:=by
  intro X O hw C hc i j s σ H E I hf st hg;subst O hw C;obtain⟨xs,n,hx⟩:=hg;obtain⟨y,G,p,Z⟩:=I.tuple n;obtain⟨f0,f1,f2,J,F,B⟩:=hf it (by simp);have hl:=G.length;exact wpAny_pyNext_tuple_end (I.ok.hd hc) st ((p)) (by simp_all) fun h' U=>⟨rfl,I.turned (fun b o hb e=>U b o hb e) f0 f1 J F B⟩
 self:=fun _ _ _ _ _ st h=>wpAny_pyIter_tupleiter st h
theorem Ep {P:Program} {w:World} {K:W.Frag} {G:Expr} (it:Addr) (lo:Int) (n:Nat):Turn P w K G (NU lo n) [it] it (fun i h=>IsRangeIter h it (lo+(i:Nat)*1) ((n:Int) - (i:Nat)) 1) where
 mem:=by simp
 obj:=fun i h st b hb=>by
  simp_all
 keep:=fun i h h' st k=>k it (by simp) _ st
 item:=by
  intro X y hw x hc i a s σ H E I hf st hg;subst y hw x;obtain⟨f0,f1,J,u,m,j⟩:=hf it (by simp);have W:=Walks.range (prog:=X.prog) (w:=X.w) (I.ok.hd hc) it lo 1 n;refine W.item i s _ _ hg st fun v h' tk z d C=>?_;obtain⟨t,rfl⟩:=z;have F:Inv X _ σ H {s with heap:=h',toks:=tk}:=I.turned (fun b o hb e=>C b o (by simp_all) e) f0 f1 u m j;refine⟨_,rfl,Gm d rfl rfl (by decide) ⟨.int _,H,F,⟨t,?_⟩,⟨rfl,rfl⟩,d,fun b hb=>(hf b hb).1⟩⟩;rw[Int.mul_one]
 done:=by
  intro X y hw x hc i a s σ H E I hf st hg;obtain⟨f0,f1,J,u,m,j⟩:=hf it (by simp);exact wpAny_pyNext_range_end (I.ok.hd hc) st (by have:n<=i:=hg;lia) fun h' B=>⟨rfl,I.turned (fun b o hb e=>B b o hb e) f0 f1 u m j⟩
 self:=fun _ _ _ _ _ st h=>wpAny_pyIter_rangeiter st h
section
theorem Iy {X:Cx} {y:Expr} {d:List (Addr×Obj)} {σ:St} {H:Hp} {s:Shared} {R:It->Hp->Prop} {E:Value->Shared->Prop} {lo a:Int} {t u v:Tok} {tk:Nat} (I:Inv X d σ H s) (h1 : -(2 ^ 62)<=lo) (j:lo<2 ^ 62) (n : -(2 ^ 62)<=a) (x:a<2 ^ 62)
  (q:R (NU lo (a - lo).toNat) H):wpAny (model X.prog X.w) X.A (pyIter (.ref s.heap.objs.size)) (PIE X d σ y R) E {s with heap:=s.heap.push {cls:= .type "range",data:= .fields #[.int lo t,.int a u,.int 1 v]},toks:=tk}:=by
 refine wpAny_pyIter_range (IsRange.new ..) (small_one h1 j n x) ?_;have i:Inv X _ σ H {s with heap:=s.heap.push {cls:= .type "range",data:= .fields #[.int lo t,.int a u,.int 1 v]},toks:=tk}:=I.kept fun b o e=>Heap.get?_push_of_some _ e;refine⟨_,_,_,_,H,rfl,
  i.kept fun b o e=>Heap.get?_push_of_some _ e,Ep _ lo _,?_,fun b hb=>?_,q⟩
 ·
  have m:lo+((0:Nat))*1=lo:=by simp
  have z:(((a - lo).toNat)) - ((0:Nat))=Builtin.Range.rangeSize lo a 1:=by rw[rangeSize_one];split<;>lia
  rw[m,z];exact Heap.get?_push_size _ rfl
 ·
  have e:b=(s.heap.push {cls:= .type "range",data:= .fields #[.int lo t,.int a u,.int 1 v]}).objs.size:=by simp_all
  subst e;exact i.Dh (Nat.le_refl _) (i.hok.fresh (Nat.le_refl _))
def Mj (wi:TI) (g:TG) (n:TS):TS:=fun D σ H=>wi σ H fun J s=> ∃W:Nat->Nat->St->Hp->Prop,(∃m,W 0 m σ s)/\∀i m σ H,W i m σ H->
 (J.stop i H/\D.nx σ H)\/(J.go i H/\∃N:St->Hp->Prop,(∀a H',N a H'->∃j,j<m/\W (i+1) j a H')/\∀x H',J.yld i H x H'->g x σ H' fun d u=>n {D with nx:=N,ct:=N,bk:=D.nx} d u)
noncomputable def CU (a:List Addr) (h:Heap):List (Addr×Obj):=a.filterMap fun b=>(h.get? b).map fun o=>(b,o)
theorem ql (hb:b∈fp) (e:h.get? b=some o):(b,o)∈CU fp h:=List.mem_filterMap.mpr ⟨b,hb,by simp_all⟩
theorem Hm (a:p∈CU fp h):p.1∈fp/\h.get? p.1=some p.2:=by
 obtain⟨b,hb,e⟩:=List.mem_filterMap.mp a;cases q:h.get? b<;>grind
theorem Inv.pinned (I:Inv X pins σ H s) (hf: ∀b∈fp,xK X pins H b) (ho: ∀b∈fp,∃o,s.heap.get? b=some o/\∀v,o.data≠ .cell v):Inv X (pins++CU fp s.heap) σ H s:=
 I.yV fun p i=>(List.mem_append.mp i).elim (fun z=>I.pin p (List.mem_append_right _ z)) fun z=>by
  obtain⟨hb,e⟩:=Hm z;obtain⟨f0,f1,j,_⟩:=hf _ hb;obtain⟨o,a,d⟩:=ho _ hb;rw[e] at a;cases a;exact⟨e,f0,f1,j,d⟩
theorem Inv.unpinned (I:Inv X (pins++pl) σ H s):Inv X pins σ H s:=I.yV fun p a=>I.pin p (List.mem_append_right _ (List.mem_append_left _ a))
theorem rL (O:PassesOwn (model X.prog X.w) X.A X.env X.xe) (hc:X.calm=true) (hi:PI X tg iter wi) (hg:PG X tg g) (hb:ya X body tb) (hs: ∀x,foldedSetIterable iter X.env x=pure x:=by intro _;rfl):PS X (.For tg iter body [] pos) (Mj wi g tb):=by
 intro E s σ H D I h;refine wpAny_For (thn (hi _ s σ H _ I h) fun v s1 h1=>thn h1 fun itv s2 h2=>?_) hs;obtain⟨it,Q,tn,J,H2,e,I2,T,Y,f2,W,⟨m0,w0⟩,turn⟩:=h2;subst e

 have z: ∀{H':Hp},(∀b∈Q,H' b=none)->∀b∈Q,xK X _ H' b:=fun hn b hb=>⟨hn b hb,(f2 b hb).2⟩;refine codeAny_forLoop_any (fun n s'=> ∃i y H',Inv X _ y H' s'/\tn i s'.heap/\(∀b∈Q,H' b=none)/\W i n y H') ?_ m0 ⟨0,σ,H2,I2,Y,fun b hb=>(f2 b hb).1,w0⟩;rintro n s3 ⟨i,Z,U,I3,P,G,w3⟩;rcases turn i n _ U w3 with⟨stop,qn⟩|⟨go,N,hN,step⟩
 ·
  refine wpAny_passesOwn O (thn (T.done X rfl rfl rfl hc i _ s3 _ U _ I3 (z G) P stop) fun r s4 ⟨hr,I4⟩=>?_);subst hr;exact wpAny_execs_nil ⟨Z,U,I4,qn⟩
 ·
  refine wpAny_passesOwn O (thn (T.item X rfl rfl rfl hc i _ s3 _ U _ I3 (z G) P go) fun r s4 ⟨u,hr,h4⟩=>?_);subst hr;refine wpAny_passesOwn O (thn h4 fun _ s5 ⟨x,H5,I5,r5,y5,C,fr5⟩=>?_);have I5':=I5.pinned (z fr5) (T.obj _ _ C);refine wpAny_passesOwn O (thn (hg _ s5 _ H5 x u _ I5' r5 (step x H5 y5)) fun _ s6 ⟨σ6,H6,I6,q6⟩=>?_);refine wpAny_passesOwn O (thn (hb _ s6 _ H6 _ I6 q6) fun f s7 q7=>?_);have again: ∀{a:St} {B:Hp},Inv X _ _ B s7->N _ B->∃m,m<n/\∃i y H',Inv X E y H' s7/\tn i _/\(∀b∈Q,H' b=none)/\W i m y H':=fun{a B} j F=>by
   obtain⟨m',hm,w7⟩:=hN _ B F;refine⟨m',hm,_,a,B,j.unpinned,T.keep _ _ _ C fun b hb o e=>(j.pin _ (List.mem_append_right _ (List.mem_append_right _ (ql hb e)))).1,fun b hb=>?_,w7⟩;obtain⟨o,e,d⟩:=T.obj _ _ C b hb;exact(j.pin _ (List.mem_append_right _ (List.mem_append_right _ (ql hb e)))).2.1
  cases f with
  |next=>obtain⟨a,B,j,F⟩:=q7;exact again j F
  |cont=>obtain⟨a,B,j,F⟩:=q7;exact again j F
  |brk=>obtain⟨a,B,j,q7⟩:=q7;exact⟨a,B,j.unpinned,q7⟩
  |ret v=>obtain⟨x7,a,B,j,r7,q7⟩:=q7;exact⟨x7,a,B,j.unpinned,r7,q7⟩
end
theorem Lz {K:W.Frag} {g:TG} {u:TS} {D:Ends} (Pv:Nat->St->Hp->Prop) (h0:Pv 0 σ H) (z: ∀i σ H,i<=xs.length->Pv i σ H->bO K H a xs) (C: ∀i x σ H,xs[i]?=some x->Pv i σ H->g x σ H fun j n=>u {D with nx:=Pv (i+1),ct:=Pv (i+1),bk:=D.nx} j n) (hd: ∀σ H,Pv xs.length σ H->D.nx σ H):
  ∃W:Nat->Nat->St->Hp->Prop,(∃m,W 0 m σ H)/\∀i m σ H,W i m σ H->
   ((Itl K a).stop i H/\D.nx σ H)\/((Itl K a).go i H/\∃N:St->Hp->Prop,(∀d H',N d H'->∃v,v<m/\W (i+1) v d H')/\∀x H',(Itl K a).yld i H x H'->g x σ H' fun j n=>u {D with nx:=N,ct:=N,bk:=D.nx} j n):=by
 refine⟨fun i m σ H=>m=xs.length - i/\i<=xs.length/\Pv i σ H,⟨_,rfl,Nat.zero_le _,h0⟩,?_⟩;rintro i m σ H ⟨rfl,B,p⟩;have q:=z i σ H B p;by_cases s:i<xs.length
 ·
  refine .inr ⟨⟨xs,xs[i],q,by simp_all⟩,_,fun d H' E=>⟨_,by lia,rfl,s,E⟩,fun x H' y=>?_⟩;obtain⟨e,y⟩:=y;subst e;exact C i x σ _ (y xs q) p
 ·
  have e:i=xs.length:=by lia
  subst e;exact .inl ⟨⟨xs,q,Nat.le_refl _⟩,hd σ H p⟩
theorem HH {lo:Int} {g:TG} {u:TS} {D:Ends} (Pv:Nat->St->Hp->Prop) (h0:Pv 0 σ H) (z: ∀i σ H,i<n->Pv i σ H->g (.int (lo+i)) σ H fun d s=>u {D with nx:=Pv (i+1),ct:=Pv (i+1),bk:=D.nx} d s) (hd: ∀σ H,Pv n σ H->D.nx σ H):
  ∃W:Nat->Nat->St->Hp->Prop,(∃m,W 0 m σ H)/\∀i m σ H,W i m σ H->
   ((NU lo n).stop i H/\D.nx σ H)\/((NU lo n).go i H/\∃N:St->Hp->Prop,(∀a H',N a H'->∃v,v<m/\W (i+1) v a H')/\∀x H',(NU lo n).yld i H x H'->g x σ H' fun d s=>u {D with nx:=N,ct:=N,bk:=D.nx} d s):=by
 refine⟨fun i m σ H=>m=n - i/\i<=n/\Pv i σ H,⟨n,rfl,Nat.zero_le _,h0⟩,?_⟩;rintro i m σ H ⟨rfl,C,p⟩;by_cases j:i<n
 ·
  refine .inr ⟨j,_,fun a H' B=>⟨_,by lia,rfl,j,B⟩,fun x H' y=>?_⟩;obtain⟨e,y⟩:=y;subst e y;exact z i σ _ j p
 ·
  have e:i=n:=by lia
  subst e;exact .inl ⟨Nat.le_refl _,hd σ H p⟩
noncomputable abbrev R2:=V->V->Hp->VK->Prop
def jS (X:Cx) (f:Value->Value->Sem Value) (r:R2):Prop:=
 ∀(a:List (Addr×Obj)) (s:Shared) (σ:St) (H:Hp) (x y:V) (v u:Value) (Q:VK),Inv X a σ H s->RelV x v->RelV y u->r x y H Q->
  wpAny (model X.prog X.w) X.A (f v u) (EP X a σ Q) X.xe s
def UnR (X:Cx) (f:Value->Sem Value) (r:V->Hp->VK->Prop):Prop:=
 ∀(a:List (Addr×Obj)) (s:Shared) (σ:St) (H:Hp) (x:V) (v:Value) (Q:VK),Inv X a σ H s->RelV x v->r x H Q->
  wpAny (model X.prog X.w) X.A (f v) (EP X a σ Q) X.xe s
def bP (X:Cx) (f:Value) (r:List V->Hp->VK->Prop):Prop:=
 ∀(a:List (Addr×Obj)) (s:Shared) (σ:St) (H:Hp) (xs:List V) (us:List Value) (Q:VK),Inv X a σ H s->Vals xs us->r xs H Q->
  wpAny (model X.prog X.w) X.A (call f us) (EP X a σ Q) X.xe s
def GJ (r:R2) (a i:TE):TE:=fun σ H Q=>a σ H fun x j=>i σ j fun y d=>r x y d Q
def tUn (r:V->Hp->VK->Prop) (a:TE):TE:=fun σ H Q=>a σ H fun x d=>r x d Q
def rI (C:Int->Int->Prop) (g:Int->Int->V):R2:=fun x y H Q=>match x,y with
 | .int i,.int j=>C i j/\Q (g i j) H
 |_,_=>False
theorem Yg (h:rI C g x y H Q): ∃i j,x = .int i/\y = .int j/\C i j/\Q (g i j) H:=by
 unfold rI at h;split at h
 ·exact⟨_,_,rfl,rfl,h⟩
 ·exact h.elim
def HW (g:Int->Int->V):R2:=fun x y H Q=>match x,y with
 | .int i,.int j=>Q (g i j) H
 |_,_=>False
theorem IW (h:HW g x y H Q): ∃i j,x = .int i/\y = .int j/\Q (g i j) H:=by
 unfold HW at h;split at h
 ·exact⟨_,_,rfl,rfl,h⟩
 ·exact h.elim
def rU (g:Int->V):V->Hp->VK->Prop:=fun x H Q=>match x with
 | .int i=>Q (g i) H
 |_=>False
theorem X7 (h:rU g x H Q): ∃i,x = .int i/\Q (g i) H:=by
 unfold rU at h;split at h
 ·exact⟨_,rfl,h⟩
 ·exact h.elim
section
theorem Xz {X:Cx} {a b:Expr} {B C:TE} (ha:PE X a B) (hb:PE X b C) {d:List (Addr×Obj)} {s:Shared} {σ:St} {H:Hp} {R:V->V->Hp->Prop} (I:Inv X d σ H s)
  (h:B σ H fun x z=>C σ z fun y i=>R x y i) {Q:Value->Shared->Prop} {f:Value->Value->Sem Value}
  (hf: ∀v u n x y i,Inv X d σ i n->RelV x v->RelV y u->R x y i->wpAny (model X.prog X.w) X.A (f v u) Q X.xe n):
  wpAny (model X.prog X.w) X.A (eval a X.env) (fun v j=>wpAny (model X.prog X.w) X.A (eval b X.env) (fun u m=>wpAny (model X.prog X.w) X.A (f v u) Q X.xe m) X.xe j) X.xe s:=by
 refine lY (ha _ s σ H _ I h) fun v s1 x z F J q1=>?_;refine lY (hb _ s1 σ z _ F q1) fun u n y i E G q2=>?_;exact hf v u n x y i E J G q2
theorem bz (ho:jS X (binaryOp op) r) (ha:PE X a ta) (hb:PE X b tb):PE X (.BinOp a op b pos) (GJ r ta tb):=by
 intro d s σ H Q I h;exact wpAny_BinOp (Xz ha hb I h fun v u i x y m j z n q=>ho _ i σ m x y v u Q j z n q)
theorem Yl (ho:UnR X (unaryOp op) r) (ha:PE X a ta):PE X (.UnaryOp op a pos) (tUn r ta):=by
 intro d s σ H Q I h;exact UnaryOp_ (lY (ha _ s σ H _ I h) fun v s1 x j i m q1=>ho _ s1 σ j x v Q i m q1)
theorem Yq {g:Int->Int->Int} (rule: ∀(i j:Int) (t u:Tok) (s:Shared) (Q:Value->Shared->Prop) (E:Value->Shared->Prop),C i j->Q (.int (g i j) s.toks) {s with toks:=s.toks+1}->wpAny (model X.prog X.w) X.A (f (.int i t) (.int j u)) Q E s):
  jS X f (rI C fun i j=> .int (g i j)):=by
 intro a s σ H x y v u Q I m d h;obtain⟨i,j,rfl,rfl,hc,q⟩:=Yg h;obtain⟨t,rfl⟩:=m;obtain⟨t',rfl⟩:=d;exact rule i j t t' s _ _ hc ⟨.int _,H,I.tok _,⟨_,rfl⟩,q⟩
theorem U_ {g:Int->Int->Int} (rule: ∀(i j:Int) (t u:Tok) (s:Shared) (Q:Value->Shared->Prop) (E:Value->Shared->Prop),Q (.int (g i j) s.toks) {s with toks:=s.toks+1}->wpAny (model X.prog X.w) X.A (f (.int i t) (.int j u)) Q E s):
  jS X f (HW fun i j=> .int (g i j)):=by
 intro a s σ H x y v u Q I m d h;obtain⟨i,j,rfl,rfl,q⟩:=IW h;obtain⟨t,rfl⟩:=m;obtain⟨t',rfl⟩:=d;exact rule i j t t' s _ _ ⟨.int _,H,I.tok _,⟨_,rfl⟩,q⟩
theorem Nd {g:Int->Int->Bool} (rule: ∀(i j:Int) (t u:Tok) (s:Shared) (Q:Value->Shared->Prop) (E:Value->Shared->Prop),Q (.bool (g i j)) s->wpAny (model X.prog X.w) X.A (f (.int i t) (.int j u)) Q E s):
  jS X f (HW fun i j=> .bl (g i j)):=by
 intro a s σ H x y v u Q I m d h;obtain⟨i,j,rfl,rfl,q⟩:=IW h;obtain⟨t,rfl⟩:=m;obtain⟨t',rfl⟩:=d;exact rule i j t t' s _ _ ⟨.bl _,H,I,rfl,q⟩
def ahz (i j:Int):Prop:=0<j/\j<1073741824
def NX (i j:Int):Prop:=(-(2 ^ 64)<i/\i<2 ^ 64)\/(-(2 ^ 64)<j/\j<2 ^ 64)
theorem NX.ok (h:NX i j):IntMulOk i j:=by
 rcases h with⟨h1,a⟩|⟨h1,a⟩
 ·exact .of_left (intBits_le_64 h1 a)
 ·exact .of_right (intBits_le_64 h1 a)
theorem En (k:Nat):(0:Int)<=2 ^ k:=by
 rw[two_pow_cast];exact Int.natCast_nonneg _
theorem U9:jS X (binaryOp .Add) (HW fun i j=> .int (i+j)):=U_ fun _ _ _ _ _ _ _ q=>add_int q
theorem tZ:jS X (binaryOp .Sub) (HW fun i j=> .int (i - j)):=U_ fun _ _ _ _ _ _ _ q=>sub_int q
theorem j3:jS X (binaryOp .Mult) (rI NX fun i j=> .int (i*j)):=Yq fun _ _ _ _ _ _ _ hc q=>mul_int q hc.ok
theorem sX:jS X (binaryOp .FloorDiv) (rI ahz fun i j=> .int (i / j)):=Yq fun i j _ _ _ _ _ hc q=>by
 have h1:=hc.1;have a:=hc.2;exact floordiv_int (by lia) (by rw[Int.fdiv_eq_ediv_of_nonneg i (by lia)];exact q) (.inl (PyProof.noPylong_small (by lia)))
theorem jj:jS X (binaryOp .Mod) (rI (fun _ j=>0<j) fun i j=> .int (i % j)):=Yq fun i j _ _ _ _ _ hc q=>by
 exact mod_int' (by lia) (by rw[Int.fmod_eq_emod_of_nonneg i (by lia)];exact q)
theorem Jm:jS X (binaryOp .RShift) (rI (fun _ j=>0<=j) fun i j=> .int (i / 2 ^ j.toNat)):=Yq fun i j _ _ _ _ _ hc q=>
 rshift_int hc (by rw[Int.fdiv_eq_ediv_of_nonneg i (En _)];exact q)
theorem Nn:jS X (inplaceOp .Add) (HW fun i j=> .int (i+j)):=U_ fun _ _ _ _ _ _ _ q=>iadd_int q
theorem unI {g:Int->Int} (rule: ∀(i:Int) (t:Tok) (s:Shared) (Q:Value->Shared->Prop) (E:Value->Shared->Prop),Q (.int (g i) s.toks) {s with toks:=s.toks+1}->wpAny (model X.prog X.w) X.A (f (.int i t)) Q E s):
  UnR X f (rU fun i=> .int (g i)):=by
 intro a s σ H x v Q I d h;obtain⟨i,rfl,q⟩:=X7 h;obtain⟨t,rfl⟩:=d;exact rule i t s _ _ ⟨.int _,H,I.tok _,⟨_,rfl⟩,q⟩
theorem Ur:UnR X (unaryOp .USub) (rU fun i=> .int (-i)):=unI fun _ _ _ _ _ q=>neg_int q
end
noncomputable def scal:V->V->Bool
 | .non,.non=>true | .non,.int _=>true | .int _,.non=>true | .non,.bl _=>true | .bl _,.non=>true | .non,.str _=>true | .str _,.non=>true
 | .int _,.int _=>true | .bl _,.bl _=>true | .str _,.str _=>true | .byt _,.byt _=>true
 | .int _,.str _=>true | .str _,.int _=>true | .bl _,.str _=>true | .str _,.bl _=>true
 |_,_=>false
def Yh:R2:=fun x y H Q=>scal x y=true/\Q (.bl (decide (x=y))) H
def X_:R2:=fun x y H Q=>scal x y=true/\Q (.bl (!decide (x=y))) H
theorem y2:decide (V.int i=V.int j)=(i == j):=by
 rw[Bool.eq_iff_iff];simp
theorem LK:decide (V.bl i=V.bl j)=(i == j):=by
 rw[Bool.eq_iff_iff];simp
theorem Gw:decide (V.str i=V.str j)=(i == j):=by
 rw[Bool.eq_iff_iff];simp
theorem Gy:decide (V.byt i=V.byt j)=(i.toList == j.toList):=by
 rw[Bool.eq_iff_iff];cases i;cases j;simp
section
theorem bK (I:Inv X pins σ H s) (q:Q (.bl k) H) (e:k=k'):EP X pins σ Q (.bool k') s:=by
 subst e;exact⟨.bl k,H,I,rfl,q⟩
theorem Yp:jS X (compareOp .Eq) Yh:=by
 intro m s σ H x y v u Q I d a h;obtain⟨n,q⟩:=h;cases x with
 |non=>
  cases d;cases y with
  |non=>cases a;exact PySem.EqNone.eq_none_none (bK I q (rfl))
  |bl j=>cases a;exact PySem.EqNone.eq_none_bool (bK I q (rfl))
  |int j=>obtain⟨t',rfl⟩:=a;exact PySem.EqNone.eq_none_int (bK I q (rfl))
  |str j=>obtain⟨t',rfl⟩:=a;exact PySem.EqNone.eq_none_str (bK I q (rfl))
  |_=>trivial
 |bl i=>
  cases d;cases y with
  |non=>cases a;exact PySem.EqNone.eq_bool_none (bK I q (rfl))
  |bl j=>cases a;exact eq_bool (bK I q LK)
  |str j=>obtain⟨t',rfl⟩:=a;exact PySem.EqMixed.eq_bool_str (bK I q (rfl))
  |_=>trivial
 |int i=>
  obtain⟨t,rfl⟩:=d;cases y with
  |non=>cases a;exact PySem.EqNone.eq_int_none (bK I q (rfl))
  |int j=>obtain⟨t',rfl⟩:=a;exact eq_int (bK I q y2)
  |str j=>obtain⟨t',rfl⟩:=a;exact PySem.EqMixed.eq_int_str (bK I q (rfl))
  |_=>trivial
 |str i=>
  obtain⟨t,rfl⟩:=d;cases y with
  |non=>cases a;exact PySem.EqNone.eq_str_none (bK I q (rfl))
  |bl j=>cases a;exact PySem.EqMixed.eq_str_bool (bK I q (rfl))
  |int j=>obtain⟨t',rfl⟩:=a;exact PySem.EqMixed.eq_str_int (bK I q (rfl))
  |str j=>obtain⟨t',rfl⟩:=a;exact eq_str (bK I q Gw)
  |_=>trivial
 |byt i=>
  obtain⟨t,rfl⟩:=d;cases y with
  |byt j=>obtain⟨t',rfl⟩:=a;exact W.eq_bytes (bK I q Gy)
  |_=>trivial
 |_=>trivial
theorem Yo:jS X (compareOp .NotEq) X_:=by
 intro m s σ H x y v u Q I d a h;obtain⟨n,q⟩:=h;cases x with
 |non=>
  cases d;cases y with
  |non=>cases a;exact PySem.EqNone.ne_none_none (bK I q (rfl))
  |bl j=>cases a;exact PySem.EqNone.ne_none_bool (bK I q (rfl))
  |int j=>obtain⟨t',rfl⟩:=a;exact PySem.EqNone.ne_none_int (bK I q (rfl))
  |str j=>obtain⟨t',rfl⟩:=a;exact PySem.EqNone.ne_none_str (bK I q (rfl))
  |_=>trivial
 |bl i=>
  cases d;cases y with
  |non=>cases a;exact PySem.EqNone.ne_bool_none (bK I q (rfl))
  |bl j=>cases a;exact ne_bool (bK I q (congrArg _ LK))
  |str j=>obtain⟨t',rfl⟩:=a;exact PySem.EqMixed.ne_bool_str (bK I q (rfl))
  |_=>trivial
 |int i=>
  obtain⟨t,rfl⟩:=d;cases y with
  |non=>cases a;exact PySem.EqNone.ne_int_none (bK I q (rfl))
  |int j=>obtain⟨t',rfl⟩:=a;exact ne_int (bK I q (congrArg _ y2))
  |str j=>obtain⟨t',rfl⟩:=a;exact PySem.EqMixed.ne_int_str (bK I q (rfl))
  |_=>trivial
 |str i=>
  obtain⟨t,rfl⟩:=d;cases y with
  |non=>cases a;exact PySem.EqNone.ne_str_none (bK I q (rfl))
  |bl j=>cases a;exact PySem.EqMixed.ne_str_bool (bK I q (rfl))
  |int j=>obtain⟨t',rfl⟩:=a;exact PySem.EqMixed.ne_str_int (bK I q (rfl))
  |str j=>obtain⟨t',rfl⟩:=a;exact ne_str (bK I q (congrArg _ Gw))
  |_=>trivial
 |byt i=>
  obtain⟨t,rfl⟩:=d;cases y with
  |byt j=>obtain⟨t',rfl⟩:=a;exact W.ne_bytes (bK I q (congrArg _ Gy))
  |_=>trivial
 |_=>trivial
theorem DT:jS X (compareOp .Lt) (HW fun i j=> .bl (decide (i<j))):=Nd fun _ _ _ _ _ _ _ q=>lt_int q
theorem nI:jS X (compareOp .LtE) (HW fun i j=> .bl (decide (i<=j))):=Nd fun _ _ _ _ _ _ _ q=>le_int q
theorem BS:jS X (compareOp .Gt) (HW fun i j=> .bl (decide (j<i))):=Nd fun _ _ _ _ _ _ _ q=>gt_int q
theorem N6:jS X (compareOp .GtE) (HW fun i j=> .bl (decide (j<=i))):=Nd fun _ _ _ _ _ _ _ q=>ge_int q
theorem Hj:jS X (compareOp .In) (fun x y H Q=> ∃i j,x = .str i/\y = .str j/\Q (.bl (!(Builtin.Str.occurrences j i 0 j.length 1).isEmpty)) H):=by
 intro a s σ H x y v u Q I m d h;obtain⟨i,j,rfl,rfl,q⟩:=h;obtain⟨t,rfl⟩:=m;obtain⟨t',rfl⟩:=d;exact in_str (bK I q rfl)
theorem U4:jS X (compareOp .Is) (fun x y H Q=>y = .non/\Q (.bl (decide (x = .non))) H):=by
 intro a s σ H x y v u Q I i d h;obtain⟨rfl,q⟩:=h;cases d;refine is_none_gen (bK I q ?_);cases x<;>first
  |rfl
  |(obtain⟨t,rfl⟩:=i;rfl)
theorem M_:jS X (compareOp .IsNot) (fun x y H Q=>y = .non/\Q (.bl (!decide (x = .non))) H):=by
 intro a s σ H x y v u Q I i d h;obtain⟨rfl,q⟩:=h;cases d;refine isnot_none_gen (bK I q ?_);cases x<;>first
  |rfl
  |(obtain⟨t,rfl⟩:=i;rfl)
theorem jS.or (h:jS X f r) (h':jS X f r'):jS X f (fun x y H Q=>r x y H Q\/r' x y H Q):=by
 intro d s σ H x y v u Q I i a q;rcases q with q|q
 ·exact h _ s σ H x y v u Q I i a q
 ·exact h' _ s σ H x y v u Q I i a q
theorem nomark (b:Expr) {op:CmpOp} (h:op≠ .In:=by decide) (i:op≠ .NotIn:=by decide):behindInMarks op b=false:=by
 have a:(op == CmpOp.In)=false:=by simp_all
 have d:(op == CmpOp.NotIn)=false:=by simp_all
 cases b<;>simp[behindInMarks,a,d]
theorem sW (ho:jS X (compareOp op) r) (ha:PE X a ta) (hb:PE X b tb) (hm:behindInMarks op b=false):PE X (.Compare a [op] [b] pos) (GJ r ta tb):=by
 intro d s σ H Q I h;exact wpAny_Compare1 (Xz ha hb I h fun v u i x y m j z n q=>ho _ i σ m x y v u Q j z n q) hm
def BG (t:TE):TT:=fun σ H Q=>t σ H fun x H'=> ∃k,x = .bl k/\Q k H'
theorem kL (ho:jS X (compareOp op) r) (ha:PE X a ta) (hb:PE X b tb) (hm:behindInMarks op b=false):PT X (.Compare a [op] [b] pos) (BG (GJ r ta tb)):=by
 intro d s σ H Q I h;refine wpAny_isTrue_Compare1 (lY (ha _ s σ H _ I h) fun v s1 x C n J q1=>lY (hb _ s1 σ C _ n q1) fun u j y E m F q2=>
  thn (ho _ j σ E x y v u _ m J F q2) fun c O ⟨z,B,G,i,k,e,q3⟩=>?_) hm
 subst e;cases i;exact wpAny_truthy_bool ⟨B,G,q3⟩
def Et (r m:R2) (d n i:TE):TE:=fun σ H Q=>d σ H fun x u=>n σ u fun y j=>r x y j fun z a=> ∃k,z = .bl k/\
 (if k=true then i σ a fun v s=>m y v s Q else Q (.bl false) a)
theorem nG (ho:jS X (compareOp op) r) (i:jS X (compareOp op') r') (ha:PE X a ta) (hb:PE X b tb) (hc:PE X c tc) (hm:lastMarks [op,op'] [b,c]=false:=by with_unfolding_all rfl):PE X (.Compare a [op,op'] [b,c] pos) (Et r r' ta tb tc):=by
 intro j s σ H Q I h;refine Compare_chain (lY (ha _ s σ H _ I h) fun v s1 x W U r1 q1=>chain_link (lY (hb _ s1 σ W _ U q1) fun u F y Z P n q2=>
  thn (ho _ F σ Z x y v u _ P r1 n q2) fun d Y ⟨z,m,B,C,k,e,q3⟩=>?_)) hm
 subst e;cases C;refine wpAny_truthy_bool ?_;cases k with
 |false=>exact ite_ff ⟨.bl _,m,B,rfl,q3⟩
 |true=>exact ite_tt (chain_last (lY (hc _ Y σ m _ B q3) fun J O z' G I4 E q4=>i _ O σ G y z' u J Q I4 n E q4))
theorem Jb (ho:jS X (compareOp op) r) (i:jS X (compareOp op') r') (ha:PE X a ta) (hb:PE X b tb) (hc:PE X c tc) (hm:lastMarks [op,op'] [b,c]=false:=by with_unfolding_all rfl):PT X (.Compare a [op,op'] [b,c] pos) (BG (Et r r' ta tb tc)):=by
 intro j s σ H Q I h;refine isTrue_chain (lY (ha _ s σ H _ I h) fun v s1 x H1 Z r1 q1=>test_link (lY (hb _ s1 σ H1 _ Z q1) fun u J y H2 Y n q2=>
  thn (ho _ J σ H2 x y v u _ Y r1 n q2) fun d s3 ⟨z,m,B,E,k,e,q3⟩=>?_)) hm
 subst e;cases E;refine wpAny_truthy_bool ?_;cases k with
 |false=>
  obtain⟨k',e',W⟩:=q3;cases e';exact ite_ff ⟨m,B,W⟩
 |true=>
  refine ite_tt (test_last (lY (hc _ s3 σ m _ B q3) fun P U z' O I4 F q4=>thn (i _ U σ O y z' u P _ I4 n F q4) fun d' s5 ⟨z2,C,G,r5,k2,e2,q5⟩=>?_));subst e2;cases r5;exact wpAny_truthy_bool ⟨C,G,q5⟩
theorem wN:(sizeLine:Nat)<2 ^ 63:=by rw[sizeLine_eq];decide
theorem EN:jS X (binaryOp .Add) (fun x y H Q=> ∃i j,x = .str i/\y = .str j/\i.length+j.length<=sizeLine/\Q (.str (i++j)) H):=by
 intro a s σ H x y v u Q I n m h;obtain⟨i,j,rfl,rfl,d,q⟩:=h;obtain⟨t,rfl⟩:=n;obtain⟨t',rfl⟩:=m;exact add_str (fun t' tk=>⟨.str _,H,I.tok _,⟨_,rfl⟩,q⟩) d
theorem vals1 (r:Vals [x] us): ∃u,us= [u]/\RelV x u:=by
 cases r with
 |cons d a=>cases a;exact⟨_,rfl,d⟩
theorem vals2 (r:Vals [x,y] us): ∃u a,us= [u,a]/\RelV x u/\RelV y a:=by
 cases r with
 |cons m j=>
  cases j with
  |cons d i=>cases i;exact⟨_,_,rfl,m,d⟩
theorem HQ (hc:X.calm=true):bP X (.builtin "max") (fun xs H Q=> ∃i j,xs= [.int i,.int j]/\Q (.int (if j > i then j else i)) H):=by
 intro d s σ H xs us Q I r h;obtain⟨i,j,rfl,q⟩:=h;obtain⟨u,m,rfl,⟨t,rfl⟩,⟨t',rfl⟩⟩:=vals2 r;refine max_two_ints (I.ok.hd hc) fun h' tk k=>⟨_,H,I.kept k,?_,q⟩;by_cases a:j > i
 ·rw[if_pos a,if_pos a];exact⟨_,rfl⟩
 ·rw[if_neg a,if_neg a];exact⟨_,rfl⟩
theorem HP (hc:X.calm=true):bP X (.builtin "min") (fun xs H Q=> ∃i j,xs= [.int i,.int j]/\Q (.int (if j<i then j else i)) H):=by
 intro d s σ H xs us Q I r h;obtain⟨i,j,rfl,q⟩:=h;obtain⟨u,m,rfl,⟨t,rfl⟩,⟨t',rfl⟩⟩:=vals2 r;refine min_two_ints (I.ok.hd hc) fun h' tk k=>⟨_,H,I.kept k,?_,q⟩;by_cases a:j<i
 ·rw[if_pos a,if_pos a];exact⟨_,rfl⟩
 ·rw[if_neg a,if_neg a];exact⟨_,rfl⟩
theorem fU:bP X (.type "str") (fun xs H Q=> ∃i,xs= [.int i]/\i.natAbs.log2<1920/\Q (.str (toString i)) H):=by
 intro a s σ H xs us Q I r h;obtain⟨i,rfl,d,q⟩:=h;obtain⟨u,rfl,t,rfl⟩:=vals1 r;exact PySem.P.str_of_int d ⟨.str _,H,I.tok _,⟨_,rfl⟩,q⟩
end
structure Fo (h:Heap) (x dx C:Addr) (mA:Str->Option Value):Prop where
 obj:h.get? x=some (W.instObj C dx)
 ns:h.Ns1 dx mA
 ne:dx≠x
theorem BX {h:Heap} (n:h.Ns1 dx mA): ∃j,h.get? dx=some j/\∀name,W.lookIn name j=some (mA name):=by
 obtain⟨o,i,u,ho,hd,hk,_,hm⟩:=n;refine⟨o,ho,fun name=>?_⟩;have e:=hm name;unfold nsFind findBy at e;rw[<-Array.find?_toList] at e;unfold W.lookIn;rw[hd];dsimp only;split
 ·simp_all
 ·
  rename_i q;rw[q] at e;have a:i.toList.any (·.refKey)=false:=by
   rw[List.any_eq_false];intro y s;obtain⟨z,t,d⟩:=hk y (Array.mem_toList_iff.mp s);simp[DictEntry.refKey,d]
  have m: ¬i.toList.any (·.refKey)=true:=by lia
  rw[if_neg m];exact congrArg _ e
theorem Fo.look (I:Fo h x dx C mA): ∃a,W.InstAt h x (W.instObj C dx) C (some a)/\∀name,W.lookIn name a=some (mA name):=
 let ⟨a,ho,hl⟩:=BX I.ns
 ⟨a,⟨I.obj,rfl,rfl,ho⟩,hl⟩
section
variable {K:W.Frag}
theorem get_map (X:K.In s.heap) (I:Fo s.heap x dx C mA) (hg:W.plainGet K C name=true) (hh:W.hasDictIn K C=true) (ha:W.findIn K (.ref C) name=some none) (j:mA name=some v) (a:W.handedIn v=true) (h:Q v {s with toks:=s.toks+1}):
  wpAny (model prog w) A (getAttr (.ref x) name expr) Q E s:=by
 obtain⟨i,J,d⟩:=I.look;exact W.get_value X J (W.plainGet_of hg).1 (W.findObj_own hh ha rfl (by simp_all)) a h
theorem Ls (X:K.In s.heap) (I:Fo s.heap x dx C mA) (hg:W.plainGet K C name=true) (hf:W.findIn K (.ref C) name=some (some (.ref f))) (ht:W.isFn K (.ref f)=true) (i:mA name=none) (h:Q (.ref f,[.ref x]) s):
  wpAny (model prog w) A (getMethod (.ref x) name pl) Q E s:=by
 obtain⟨d,J,a⟩:=I.look;exact W.method_fn X J (W.plainGet_of hg).1 (W.plainGet_of hg).2 hf (beq_iff_eq.mp ht) (by show(W.lookIn _ d).map _=some _;rw[a,i];rfl) h
theorem Mm (X:K.In s.heap) (I:Fo s.heap x dx C mA) (B:W.findIn K (.ref C) "__setattr__" = some (some (.builtin "object.__setattr__"))) (F:W.plainOver K C=true) (ht:W.takerIn K C name=some none) (hh:W.hasDictIn K C=true) (hw:PySem.Within mA ns) (hsz:ns.length<=sizeLine) (h: ∀h',Fo h' x dx C (fun y=>if y=name then some v else mA y)->Heap.SameBut dx s.heap h'->Q () {s with heap:=h',toks:=s.toks+2}):
  wpAny (model prog w) A (setAttr (.ref x) name v) Q E s:=by
 obtain⟨O,J,G⟩:=I.look;refine W.set_plain X J B (W.osa_open X J F ht fun b=>?_);obtain⟨cd,hc,n⟩:=W.any_some hh;have hx:=I.obj;refine wpAny_bind (wpAny_pure (wpAny_bind (wpAny_bind (wpAny_loadPart hx (wpAny_bind (W.Looks.here (W.looks_clsIn X hc) ?_))))));rw[n];refine wpAny_pure (wpAny_bind (wpAny_pure (wpAny_bind ?_)));refine wpAny_nsSet1 I.ns fun h' d a=>?_;obtain⟨H,z,u,m,i,j⟩:=d.count (PySem.Within.cons _ v hw);refine wpAny_bind (wpAny_lookBehind m (by rw[i];exact pastItsLine_dict (Nat.le_trans j (by simp_all))) ?_);exact wpAny_pure (h _ ⟨(a.2 _ (Ne.symm I.ne)).trans I.obj,d,I.ne⟩ a)
theorem D4 (X:K.In s.heap) (hm:W.makesIn K C=true) (a:W.findIn K (.ref C) "__init__" = some (some (.ref f))) (hf:W.typeIn K (.ref f)=some (.type "function")) (h:codeAny (model prog w) (A.under (.builtin "type.__call__" ⟨.ref C::vs,kw⟩)) (.call (.ref f) ⟨.ref (s.heap.objs.size+1)::vs,kw⟩) (W.InitBack (s.heap.objs.size+1) R)
   {s with heap:=(s.heap.push W.emptyDict).push (W.instObj C s.heap.objs.size)}):
  codeAny (model prog w) A (.call (.ref C) ⟨vs,kw⟩) R s:=by
 exact W.make_core (W.makes_of X hm) (W.looks_findIn X a) (fun self=>W.bind_fn X _ hf) (.inl rfl) h
theorem Hu (X:K.In s.heap) (hm:W.makesIn K C=true) (a:W.findIn K (.ref C) "__init__" = some (some (.builtin "object.__init__"))) (hb: ∀self,W.Looks (model prog w) s.heap (bindSpecial (.builtin "object.__init__") self) (.builtin "object.__init__",[self])) (h:codeAny (model prog w) (A.under (.builtin "type.__call__" ⟨[.ref C],[]⟩)) (.call (.builtin "object.__init__") ⟨[.ref (s.heap.objs.size+1)],[]⟩) (W.InitBack (s.heap.objs.size+1) R)
   {s with heap:=(s.heap.push W.emptyDict).push (W.instObj C s.heap.objs.size)}):
  codeAny (model prog w) A (.call (.ref C) ⟨[],[]⟩) R s:=by
 exact W.make_core (W.makes_of X hm) (W.looks_findIn X a) hb (.inr ⟨rfl,rfl⟩) h
end
noncomputable def bu (f:Str) (v:V):List (Str×V)->List (Str×V)
 | []=>[(f,v)]
 |(g,x)::r=>if g=f then(g,v)::r else(g,x)::bu f v r
theorem xV (f g:Str) (v:V): ∀fs:List (Str×V),(bu f v fs).lookup g=if g=f then some v else fs.lookup g
 | []=>by
  show List.lookup g [(f,v)]=_;by_cases h:g=f
  ·simp_all
  ·simp_all
 |(k,x)::r=>by
  have a:=xV f g v r;rw[show bu f v _=(if k=f then(k,v)::r else(k,x)::bu f v r) from rfl];by_cases hk:k=f
  ·
   rw[if_pos hk];by_cases h:g=k
   ·simp_all
   ·
    have hb:=beq_eq_false_iff_ne.mpr h;simp only[List.lookup,hb,if_neg (fun e:g=f=>h (e.trans hk.symm))]
  ·
   rw[if_neg hk];by_cases h:g=k
   ·simp_all
   ·
    have hb:=beq_eq_false_iff_ne.mpr h;simp only[List.lookup,hb];exact a
theorem wO (f:Str) (v:V): ∀fs:List (Str×V),f∈(bu f v fs).map (·.1)/\∀g,g∈fs.map (·.1)->g∈(bu f v fs).map (·.1)
 | []=>⟨by simp[bu],fun g h=>by simp_all⟩
 |(k,x)::r=>by
  obtain⟨a,i2⟩:=wO f v r;rw[show bu f v _=(if k=f then(k,v)::r else(k,x)::bu f v r) from rfl];by_cases hk:k=f
  ·simp_all
  ·grind
theorem xW (f:Str) (v:V): ∀fs:List (Str×V),(bu f v fs).length<=fs.length+1
 | []=>by simp[bu]
 |(k,x)::r=>by
  have a:=xW f v r;rw[show bu f v _=(if k=f then(k,v)::r else(k,x)::bu f v r) from rfl];by_cases hk:k=f
  ·simp_all
  ·simp_all
theorem Bx.some_of (r:Bx (some v) o): ∃u,o=some u/\RelV v u:=by
 cases o with
 |none=>trivial
 |some u=>exact⟨u,rfl,r⟩
theorem Bx.none_of (r:Bx none o):o=none:=by
 cases o with
 |none=>rfl
 |some u=>trivial
theorem B0 (r:RelV v u):W.handedIn u=true:=by
 cases v with
 |non=>cases((r));rfl
 |bl b=>cases((r));rfl
 |int i=>obtain⟨t,e⟩:=((r));cases e;rfl
 |str x=>obtain⟨t,e⟩:=((r));cases e;rfl
 |byt b=>obtain⟨t,e⟩:=((r));cases e;rfl
 |flt b=>obtain⟨t,e⟩:=((r));cases e;rfl
 |ref a=>cases((r));rfl
 |ty n=>cases((r));rfl
section
theorem yY (hok:yS P w H h) (e:H a=some (.ins C dx fs)): ∃i,Fo h a dx C i/\(∀f,Bx (fs.lookup f) (i f))/\PySem.Within i (fs.map (·.1))/\fs.length<=1000/\H dx=some (.own a):=by
 obtain⟨d,z,ne,ob,i,n,r,q⟩:=((hok a _ e));exact⟨i,⟨ob,n,ne⟩,r,q,z,d⟩
end
structure Uo (K:W.Frag) (C:Addr):Prop where
 pg:W.plainGet K C Str.empty=true
 hd:W.hasDictIn K C=true
 po:W.plainOver K C=true
 sa:W.findIn K (.ref C) "__setattr__" = some (some (.builtin "object.__setattr__"))
theorem Uo.get {K:W.Frag} (c:Uo K C) (f:Str):W.plainGet K C f=true:=c.pg
def a_ (K:W.Frag) (C:Addr) (f:Str):Prop:=W.findIn K (.ref C) f=some none
theorem a_.taker {K:W.Frag} (n:a_ K C f):W.takerIn K C f=some none:=by
 unfold W.takerIn;rw[(n)];rfl
structure Meth (K:W.Frag) (C:Addr) (m:Str) (f:Addr):Prop where
 at_:W.findIn K (.ref C) m=some (some (.ref f))
 fn:W.isFn K (.ref f)=true
 kp:W.keepIn K (.ref f)=true
section
theorem z6 (I:Inv X pins σ H s) (e:H a=some (.ins C dx fs)) (c:Uo X.K C) (n:a_ X.K C f) (l:fs.lookup f=some v) (h: ∀u i,Inv X pins σ H i->RelV v u->Q u i):wpAny (model X.prog X.w) A (getAttr (.ref a) f b) Q E s:=by
 obtain⟨m,O,r,_,_,_⟩:=yY I.hok e;obtain⟨u,j,d⟩:=Bx.some_of (by rw[<-l];exact r f);exact get_map I.l9 O (c.get f) c.hd n j (B0 d) (h u _ (I.tok _) d)
theorem qs (I:Inv X pins σ H s) (e:H a=some (.ins C dx fs)) (c:Uo X.K C) (k:Meth X.K C m g) (l:fs.lookup m=none) (h:Q (.ref g,[.ref a]) s):wpAny (model X.prog X.w) A (getMethod (.ref a) m pl) Q E s:=by
 obtain⟨d,O,r,_,_,_⟩:=yY I.hok e;have hn:=Bx.none_of (by rw[<-l];exact r m);exact Ls I.l9 O (c.get m) k.at_ k.fn hn h
theorem zv (I:Inv X pins σ H s) (e:H a=some (.ins C dx fs)) (c:Uo X.K C) (n:a_ X.K C f) (B:fs.length<1000) (v:RelV y u) (h: ∀i,Inv X pins σ (upd H a (.ins C dx (bu f y fs))) i->Q () i):wpAny (model X.prog X.w) A (setAttr (.ref a) f u) Q E s:=by
 obtain⟨x,O,r,wi,_,ho⟩:=yY I.hok e;have j:(fs.map (·.1)).length<=sizeLine:=by rw[List.length_map,sizeLine_eq];lia
 refine Mm I.l9 O c.sa c.po n.taker c.hd wi j fun h' d m=>h _ ?_;have hd: ∃o,h'.get? dx=some o:=let ⟨o,_,_,e',_⟩:=d.ns;⟨o,e'⟩;refine I.write (by rw[e];exact True.intro) (.inr ho) (fun b q hb z=>(m.2 b hb).trans z) hd ?_;refine⟨by rw[ah O.ne];exact ho,?_,O.ne,d.obj,_,d.ns,fun g=>?_,fun g hg=>?_⟩
 ·have:=xW f y fs;lia
 ·
  rw[xV];by_cases q:g=f
  ·rw[if_pos q,if_pos q];exact v
  ·simp_all
 ·
  by_cases q:g=f
  ·rw[q];exact(wO f y fs).1
  ·
   refine(wO f y fs).2 g (wi g fun z=>hg ?_);show(if g=f then some u else x g)=none;rw[if_neg q];exact z
theorem Inv.made (I:Inv X pins σ H s):Inv X pins σ (upd (upd H s.heap.objs.size (.own (s.heap.objs.size+1))) (s.heap.objs.size+1) (.ins C s.heap.objs.size []))
  {s with heap:=(s.heap.push W.emptyDict).push (W.instObj C s.heap.objs.size)}:=by
 have a:(s.heap.push _).get? _=some W.emptyDict:=Heap.get?_push_size _ rfl;have m:=by
  have:=Heap.get?_push_size (s.heap.push W.emptyDict) (o:=W.instObj C s.heap.objs.size) rfl;rwa [Heap.size_push] at this
 have d:(s.heap.push _).Ns _ _:=⟨_,#[],_,a,rfl,(fun e he=>absurd he (by simp)),fun _=>rfl⟩;have i:=I.laid (o:= .own (s.heap.objs.size+1)) (t':=s.toks) (fun b u q=>Heap.get?_push_of_some _ q) (Nat.le_refl _) ⟨_,a⟩;refine i.laid (fun b u q=>Heap.get?_push_of_some _ q) (Nat.le_of_eq (Heap.size_push _ _)) ?_;have ne:s.heap.objs.size≠s.heap.objs.size+1:=Nat.ne_of_lt (Nat.lt_succ_self _);refine⟨by rw[ah ne,aa],Nat.zero_le _,ne,m,_,(Heap.Ns1.of_empty d).at fun o q=>Heap.get?_push_of_some _ q,fun _=>True.intro,fun y j=>absurd rfl j⟩
theorem GD (hb:attributeBase e f env (eval e env)=eval e env) (h:wpAny (model prog w) A (eval e env) (fun o a=>wpAny (model prog w) A (getAttr o f true) Q E a) E s):wpAny (model prog w) A (eval (.Attribute e f pos) env) Q E s:=
 Attribute_any_ h (by rw[arm_eval_Attribute,hb])
end
section
inductive tI (K:W.Frag) (H:Hp):V->Value->Prop where
 |non:tI K H .non (.type "NoneType")
 |bl (x:Bool):tI K H (.bl x) (.type "bool")
 |int (i:Int):tI K H (.int i) (.type "int")
 |str (x:Str):tI K H (.str x) (.type "str")
 |flt (x:UInt64):tI K H (.flt x) (.type "float")
 |lst {a:Addr} {xs:List V} (e:H a=some (.lst xs)):tI K H (.ref a) (.type "list")
 |frz {a:Addr} {o:Obj} {xs:List V} (e:H a=some (.frz o (.lst xs))):tI K H (.ref a) (.type "list")
 |tup {a:Addr} {xs:List V} (e:H a=some (.tup xs)):tI K H (.ref a) (.type "tuple")
 |dK {a:Addr} {kvs:List (Key×V)} (e:H a=some (.dK kvs)):tI K H (.ref a) (.type "dict")
 |dT {a:Addr} {kvs:List (List Key×V)} (e:H a=some (.dT kvs)):tI K H (.ref a) (.type "dict")
 |
   ins {a C dx:Addr} {fs:List (Str×V)} (e:H a=some (.ins C dx fs)) (cl:Uo K C) (ha:W.findIn K (.ref C) "__class__" = some (some (.builtin "object.__class__")))
   (hn:W.specialIn K (.builtin "object.__class__") "__get__" = some (some (.builtin "getset_descriptor.__get__"))) (htk:W.takesIn K (.builtin "object.__class__")=some true)
   (hm:W.mroIn K C (.type "object")=some true):tI K H (.ref a) (.ref C)
theorem Hy (I:Inv X pins σ H s) (d:RelV x u) (ty:tI X.K H x t) (e:W.kitOne X.K t c=some b) (h: ∀tk,Q (.bool b) {s with toks:=tk}):
  wpAny (model X.prog X.w) A (call (.builtin "isinstance") [u,c]) Q E s:=by
 cases ty with
 |non=>cases((d));exact W.kia_one W.kitx_none I.l9 True.intro e (fun z=>nomatch z) h
 |bl y=>cases((d));exact W.kia_one W.kitx_bool I.l9 True.intro e (fun z=>nomatch z) h
 |int i=>obtain⟨t,q⟩:=((d));cases q;exact W.kia_one W.kitx_int I.l9 True.intro e (fun z=>nomatch z) h
 |str y=>obtain⟨t,q⟩:=((d));cases q;exact W.kia_one W.kitx_str I.l9 True.intro e (fun z=>nomatch z) h
 |flt y=>obtain⟨t,q⟩:=((d));cases q;exact W.kia_one W.kitx_float I.l9 True.intro e (fun z=>nomatch z) h
 | @lst a xs j=>
  cases((d));obtain⟨_,_,n,_,h1⟩:=((I.hok a _ j));exact W.kia_one W.kitx_list I.l9 ⟨_,h1,rfl⟩ e (fun z=>nomatch z) h
 | @frz a ob xs j=>
  cases((d));obtain⟨_,_,_,n,_,h1⟩:=((I.hok a _ j));exact W.kia_one W.kitx_list I.l9 ⟨_,h1,rfl⟩ e (fun z=>nomatch z) h
 | @tup a xs j=>
  cases((d));obtain⟨_,_,_,p⟩:=((I.hok a _ j));obtain⟨o,h1,m,_⟩:=p;exact W.kia_one W.kitx_tuple I.l9 ⟨o,h1,m⟩ e (fun z=>nomatch z) h
 | @dK a v j=>
  cases((d));obtain⟨_,_,vs,_,p⟩:=((I.hok a _ j));obtain⟨o,F,B,h1,m,_⟩:=p;exact W.kia_one W.kitx_dict I.l9 ⟨o,h1,m.1⟩ e (fun z=>nomatch z) h
 | @dT a v j=>
  cases((d));obtain⟨_,_,xs,_,o,F,B,h1,m,_⟩:=((I.hok a _ j));exact W.kia_one W.kitx_dict I.l9 ⟨o,h1,m.1⟩ e (fun z=>nomatch z) h
 | @ins a C dx fs j cl ha hn htk hm=>
  cases((d));obtain⟨P,O,_⟩:=yY I.hok j;obtain⟨G,J,_⟩:=O.look;exact W.kia_one (W.kitx_own (cl.get _) cl.hd ha hn htk hm) I.l9 J e (fun z=>nomatch z) h
end
structure cG (k:Nat) (A:Around):Prop where
 hd:A.handled=none
 dp:A.depth+3*k+5<recursionLimit
 un:A.units+16*k+200<cLine
theorem cG.mono (r:cG k A) (h:j<=k):cG j A:=⟨r.hd,by have:=r.dp;lia,by have:=r.un;lia⟩
theorem cG.deeper (r:cG (k+1) A) (env:Env):cG k (A.deeper env):=
 ⟨r.hd,by have:=r.dp;show A.depth+1+3*k+5<_;lia,by have:=r.un;show A.units+3+16*k+200<_;lia⟩
theorem EZ {A:Around}:(A.under (.builtin "type.__call__" ⟨.ref C::us,kw⟩)).depth=A.depth+1:=rfl
theorem EY {A:Around}:(A.under (.builtin "type.__call__" ⟨.ref C::us,kw⟩)).units=A.units+1:=rfl
theorem cG.make (r:cG (k+1) A) (C:Addr) (us:List Value) (kw:List (Str×Value)):cG k (A.under (.builtin "type.__call__" ⟨.ref C::us,kw⟩)):=
 ⟨r.hd,by have:=r.dp;rw[EZ];lia,by have:=r.un;rw[EY];lia⟩
theorem cG.depth (r:cG k A):A.depth<recursionLimit:=by have:=r.dp;lia
theorem cG.units (r:cG k A):A.units+64<cLine:=by have:=r.un;lia
def we:TA:=fun _ H Q=>Q [] H
def qY (a:TE) (i:TA):TA:=fun σ H Q=>a σ H fun x j=>i σ j fun xs d=>Q (x::xs) d
section
theorem jJ:PA X [] we:=fun _ _ _ _ H Q I h=>Calls.spliced_nil ⟨[],H,I,.nil,h⟩
theorem FV (ha:PE X e te) (hr:PA X es t) (i:starEach (e::es) X.env=(false,eval e X.env)::starEach es X.env:=by rfl):PA X (e::es) (qY te t):=by
 intro pos a s σ H Q I h;rw[i];refine Calls.spliced_cons (lY (ha _ s σ H _ I h) fun u s1 x m j y q1=>?_);exact lY (hr _ _ s1 σ m _ j q1) fun us z xs n d v q2=>⟨_,n,d,.cons y v,q2⟩
def Uv (t:TA):TE:=fun σ H Q=>t σ H fun xs a=>xs.length<=sizeLine/\∀p,a p=none->Q (.ref p) (upd a p (.tup xs))
def Uy (t:TA):TE:=fun σ H Q=>t σ H fun xs a=>xs.length<=sizeLine/\∀p,a p=none->Q (.ref p) (upd a p (.lst xs))
theorem j2 {x1} (h:PA X es t):PE X (.Tuple es x1 pos) (Uv t):=by
 intro a s σ H Q I i;refine wpAny_Tuple_spliced (thn (h _ _ s σ H _ I i) fun us s1 ⟨xs,j,d,r,z,q⟩=>⟨by rw[<-r.length];exact z,?_⟩);have hf:=d.hok.fresh (Nat.le_refl _);refine⟨.ref _,_,d.laid (fun b u e=>Heap.get?_push_of_some _ e) (Nat.le_refl _) ?_,rfl,q _ hf⟩;exact⟨z,us,r,⟨_,Heap.get?_push_size _ rfl,rfl,_,rfl⟩⟩
theorem bS (h:PA X es t):PE X (.List es pos) (Uy t):=by
 intro a s σ H Q I i;refine wpAny_List_spliced (thn (h _ _ s σ H _ I i) fun us s1 ⟨xs,j,d,r,z,q⟩=>⟨by rw[<-r.length];exact z,?_⟩);have hf:=d.hok.fresh (Nat.le_refl _);refine⟨.ref _,_,d.laid (fun b u e=>Heap.get?_push_of_some _ e) (Nat.le_refl _) ?_,rfl,q _ hf⟩;exact⟨z,us,0,r,Heap.get?_push_size _ rfl⟩
end
noncomputable abbrev Sp:=List V->Hp->VK->XK->Prop
noncomputable abbrev Em:=List Env->Hp->Shared->XK->Value->Shared->Prop
structure Fq (P:Program) (w:World) (K:W.Frag) (mg:Str->Option Value) (base:Heap) (A:Around) (outer:List Env) (s:Shared) (H:Hp):Prop where
 frames:A.frames=some outer
 mod:Mod K mg base
 bs: ∀b o,base.get? b=some o->s.heap.get? b=some o/\H b=none
 bsz:base.objs.size<=s.heap.objs.size
 funs:s.heap.FunFrames base outer
 frf: ∀b∈frs outer,H b=none
 hok:yS P w H s.heap
 bare:AllBare s.gens
def CE (outer:List Env) (P:Program) (w:World) (H:Hp) (s:Shared) (Q:VK) (u:Value) (a:Shared):Prop:=
 ∃v H',a.os=s.os/\AllBare a.gens/\Un (frs outer) [] H H' s.heap a.heap/\yS P w H' a.heap/\RelV v u/\Q v H'
def CR (CX:Em) (outer:List Env) (P:Program) (w:World) (H:Hp) (s:Shared) (Q:VK) (E:XK) (r:Result) (a:Shared):Prop:=
 match r with
 | .ok (.ret u)=>CE outer P w H s Q u a
 | .ok _=>False
 | .error e=>CX outer H s E e a
structure uN (P:Program) (w:World) (K:W.Frag) (mg:Str->Option Value) (base:Heap) (CX:Em) (k:Nat) (f:Addr) (fd:FuncData) (ps:List Str) (sp:Sp):Prop where
 len: ∀vs H Q E,sp vs H Q E->vs.length=ps.length
 run: ∀(A:Around) (outer:List Env) (s:Shared) (H:Hp) (args:Args) (us:List Value) (vs:List V) (Q:VK) (E:XK),cG k A->Fq P w K mg base A outer s H->BindsTo s fd args (ps.zip us)->Vals vs us->sp vs H Q E->
  codeAny (model P w) A (.call (.ref f) args) (CR CX outer P w H s Q E) s
theorem Fq.make {K:W.Frag} (e:Fq P w K mg base A outer s H) (C:Addr) (us:List Value) (kw:List (Str×Value)):
  Fq P w K mg base (A.under (.builtin "type.__call__" ⟨.ref C::us,kw⟩)) outer s H:=⟨by first|exact e.frames|rfl,e.mod,e.bs,e.bsz,e.funs,e.frf,e.hok,e.bare⟩
section
theorem Inv.LF (I:Inv X pins σ H s):Fq X.prog X.w X.K X.mg X.base X.A X.stack s H:=
 ⟨I.ok.frames,I.ok.mod,I.bs,Nat.le_trans I.ok.bsz I.sz,I.stack,I.uQ,I.hok,I.bare⟩
theorem Inv.after (I:Inv X pins σ H s) (h:CE X.stack X.prog X.w H s Q u s'):EP X pins σ Q u s':=by
 obtain⟨v,H',os,bare,un,hok,r,q⟩:=h;obtain⟨hh,g,d,t,a⟩:=s';obtain rfl:a=s.os:=os;exact⟨v,H',I.call un hok bare (fun b z=>absurd z (by simp)),r,q⟩
end
def BI (sp:Sp) (a:List V) (E:XK) (t:TA):TE:=fun σ H Q=>t σ H fun vs d=>sp (vs++a) d Q E
def BH (C:Addr) (sp:Sp) (a:List V) (E:XK) (t:TA):TE:=fun σ H Q=>t σ H fun vs d=> ∀x dx,d x=none->d dx=none->dx≠x->
 sp (.ref x::(vs++a)) (upd (upd d dx (.own x)) x (.ins C dx [])) (fun v i=>v = .non/\Q (.ref x) i) E
def Binds (K:W.Frag) (i:FuncData) (a:List Str) (d:List Value):Prop:=
 ∀(s:Shared) (us:List Value),K.In s.heap->(us++d).length=a.length->BindsTo s i ⟨us,[]⟩ (a.zip (us++d))
theorem Binds.all {K:W.Frag} (h: ∀us:List Value,us.length=ps.length->bindArgs fd ⟨us,[]⟩=pure (ps.zip us)):Binds K fd ps []:=fun s us _ a=>by
 rw[List.append_nil] at a⊢;exact .of_eq (h us a)
def Passes (CX:Em) (X:Cx) (E:XK):Prop:= ∀(a:List (Addr×Obj)) (σ:St) (H:Hp) (s:Shared) (e:Value) (d:Shared),Inv X a σ H s->CX X.stack H s E e d->X.xe e d
section
theorem CF (F:uN X.prog X.w X.K X.mg X.base CX k f fd ps sp) (hr:cG k X.A) (hb:Binds X.K fd ps ds) (hd:Vals dvs ds) (hx:Passes CX X E) (I:Inv X pins σ H s) (r:Vals vs us) (h:sp (vs++dvs) H Q E):wpAny (model X.prog X.w) X.A (call (.ref f) us) (EP X pins σ Q) X.xe s:=by
 have d:=r.append hd;have i:(us++ds).length=ps.length:=by rw[<-d.length];exact F.len _ _ _ _ h
 refine wpAny_call (codeAny_mono (F.run _ _ s H _ _ _ Q E hr I.LF (hb s us I.l9 i) d h) fun r m a=>?_);cases r with
 |error e=>exact hx _ σ H s e m I a
 |ok j=>
  cases j with
  |ret u=>exact I.after a
  |next=>trivial
  |brk=>trivial
  |cont=>trivial
theorem FT (F:uN X.prog X.w X.K X.mg X.base CX k f fd ps sp) (hr:cG k X.A) (hg:Gl X x) (hm:X.mg x=some (.ref f)) (hk:W.keepIn X.K (.ref f)=true) (hb:Binds X.K fd ps ds) (hd:Vals dvs ds) (hx:Passes CX X E) (ha:PA X (e::es) t) (d:(x == ("__debug__" : Str))=false:=by decide) (he:starEach (e::es) X.env=(false,eval e X.env)::starEach es X.env:=by rfl) (a:(backTo pos (starEach es X.env)).any (·.1)=false:=by rfl):
  PE X (.Call (.Name x p) (e::es) [] pos) (BI sp dvs E t):=by
 intro i s σ H Q I h;refine wpAny_Call_Name_kw (jy I hg hm ?_ d);refine W.callWith_K I.ok.mod.kin hk (lY (ha _ _ s σ H _ I h) fun us s1 vs m j r q=>⟨j.l9,?_⟩) he a;exact CF F hr hb hd hx j r q
structure Mk (K:W.Frag) (C f:Addr):Prop where
 makes:W.makesIn K C=true
 init:W.findIn K (.ref C) "__init__" = some (some (.ref f))
 fn:W.isFn K (.ref f)=true
 kp:W.keepIn K (.ref C)=true
theorem DM (M:Mk X.K C f) (F:uN X.prog X.w X.K X.mg X.base CX k f fd ps sp) (hr:cG (k+1) X.A) (hb:Binds X.K fd ps ds) (hd:Vals dvs ds) (hx:Passes CX X E) (I:Inv X pins σ H s) (r:Vals vs us) (h: ∀x dx,H x=none->H dx=none->dx≠x->sp (.ref x::(vs++dvs)) (upd (upd H dx (.own x)) x (.ins C dx [])) (fun v z=>v = .non/\Q (.ref x) z) E):
  wpAny (model X.prog X.w) X.A (call (.ref C) us) (EP X pins σ Q) X.xe s:=by
 have i:=h _ _ (I.hok.fresh (Nat.le_succ _)) (I.hok.fresh (Nat.le_refl _)) (Nat.ne_of_lt (Nat.lt_succ_self _));have d:=Inv.made (C:=C) I;have j:Vals (V.ref (s.heap.objs.size+1)::(vs++dvs)) _:= .cons rfl (r.append hd);have m:=by
  have e:=j.length;rw[F.len _ _ _ _ i] at e;exact e.symm
 refine wpAny_call (D4 I.l9 M.makes M.init (beq_iff_eq.mp M.fn) (codeAny_mono (F.run _ _ _ _ _ _ _ _ E (hr.make C us [])
  (d.LF.make C us []) (hb _ _ d.l9 m) j i) fun r y a=>?_))
 cases r with
 |error e=>exact hx _ σ _ _ e y d a
 |ok n=>
  cases n with
  |ret u=>
   obtain⟨v,H',B,G,ev,q3⟩:=d.after a;subst ev;exact⟨G,⟨V.ref _,H',B,rfl,q3⟩⟩
  |next=>trivial
  |brk=>trivial
  |cont=>trivial
theorem FQ (M:Mk X.K C f) (F:uN X.prog X.w X.K X.mg X.base CX k f fd ps sp) (hr:cG (k+1) X.A) (hg:Gl X x) (hm:X.mg x=some (.ref C)) (hb:Binds X.K fd ps ds) (hd:Vals dvs ds) (hx:Passes CX X E) (ha:PA X (e::es) t) (d:(x == ("__debug__" : Str))=false:=by decide) (he:starEach (e::es) X.env=(false,eval e X.env)::starEach es X.env:=by rfl) (a:(backTo pos (starEach es X.env)).any (·.1)=false:=by rfl):
  PE X (.Call (.Name x p) (e::es) [] pos) (BH C sp dvs E t):=by
 intro i s σ H Q I h;refine wpAny_Call_Name_kw (jy I hg hm ?_ d);refine W.callWith_K I.ok.mod.kin M.kp (lY (ha _ _ s σ H _ I h) fun us s1 vs m j r q=>⟨j.l9,?_⟩) he a;exact DM M F hr hb hd hx j r q
theorem Jh (M:Mk X.K C f) (F:uN X.prog X.w X.K X.mg X.base CX k f fd ps sp) (hr:cG (k+1) X.A) (hg:Gl X x) (hm:X.mg x=some (.ref C)) (hb:Binds X.K fd ps ds) (hd:Vals dvs ds) (hx:Passes CX X E) (a:(x == ("__debug__" : Str))=false:=by decide):PE X (.Call (.Name x p) [] [] pos) (BH C sp dvs E we):=by
 intro d s σ H Q I h;refine wpAny_Call_Name_kw (jy I hg hm ?_ a);exact W.callWith_K0 I.l9 M.kp (DM (us:=[]) M F hr hb hd hx I .nil h)
end
def PK (X:Cx) (d:List Keyword) (t:TA):Prop:=
 ∀(pos:Pos) (a:List (Addr×Obj)) (s:Shared) (σ:St) (H:Hp) (Q:List V->Hp->Prop),Inv X a σ H s->t σ H Q->wpAny (model X.prog X.w) X.A (evalAll ((backToKw pos (keywordEach d X.env)).map (·.2))) (AP X a σ Q) X.xe s
section
theorem UN:PK X [] we:=fun _ _ _ _ H Q I h=>wpAny_evalAll_nil ⟨[],H,I,.nil,h⟩
theorem MW (ha:PE X e te) (hr:PK X kws t):PK X (⟨nm,e,kpos⟩::kws) (qY te t):=by
 intro pos a s σ H Q I h;refine wpAny_evalAll_cons (wpAny_bind (lY (ha _ s σ H _ I h) fun u s1 x j i v q1=>wpAny_bind (wpAny_standAt (wpAny_pure ?_))));exact lY (hr _ _ s1 σ j _ i q1) fun us y xs m d n q2=>⟨_,m,d,.cons v n,q2⟩
end
structure ma (N P:List Str) (sc:Scope):Prop where
 kind:sc.kind = .function
 co:sc.isCoroutine=false
 gen:sc.isGenerator=false
 nd:N.Nodup
 pre:N.take P.length=P
 par: ∀x∈P,sc.names.lookup x=some .local\/sc.names.lookup x=some .cell
 nofree: ∀y∈sc.names,y.2≠ .free
theorem Cd {kindOf:Str->Option NameKind}: ∀{binds:List (Str×Value)} {m:Str->Option Value},(∀v,(x,v) ∉ binds)->bindL kindOf binds m x=m x
 | [],_,_=>rfl
 |(n,v)::r,m,h=>by
  unfold bindL;rw[Cd fun w hw=>h w (List.mem_cons_of_mem _ hw)];split
  ·grind
  ·rfl
theorem Cf {kindOf:Str->Option NameKind}: ∀{binds:List (Str×Value)} {m:Str->Option Value},(∀v,(x,v) ∉ binds)->bindC kindOf binds m x=m x
 | [],_,_=>rfl
 |(n,v)::r,m,h=>by
  unfold bindC;rw[Cf fun w hw=>h w (List.mem_cons_of_mem _ hw)];split
  ·rfl
  ·grind
theorem Ce {kindOf:Str->Option NameKind}: ∀{P:List Str} {vs:List Value} {i:Nat} {m:Str->Option Value},P.Nodup->P[i]?=some x->vs[i]?=some v->kindOf x=some .local->
  bindL kindOf (P.zip vs) m x=some v
 | [],_,_,_,_,h,_,_=>by trivial
 |_::_,[],_,_,_,_,h,_=>by trivial
 |p::P,w::vs,0,m,nd,h1,h2,hk=>by
  simp at h1 h2;subst h1;subst h2;show bindL _ ((p,w)::P.zip vs) m p=_;unfold bindL;rw[Cd fun v a=>(List.nodup_cons.mp nd).1 (List.of_mem_zip a).1,if_pos hk];simp
 |p::P,w::vs,i+1,m,nd,h1,h2,hk=>by
  unfold bindL;exact Ce (List.nodup_cons.mp nd).2 (‹_›) (‹_›) hk
theorem Cg {kindOf:Str->Option NameKind}: ∀{P:List Str} {vs:List Value} {i:Nat} {m:Str->Option Value},P.Nodup->P[i]?=some x->vs[i]?=some v->kindOf x≠some .local->
  bindC kindOf (P.zip vs) m x=some v
 | [],_,_,_,_,h,_,_=>by trivial
 |_::_,[],_,_,_,_,h,_=>by trivial
 |p::P,w::vs,0,m,nd,h1,h2,hk=>by
  simp at h1 h2;subst h1;subst h2;show bindC _ ((p,w)::P.zip vs) m p=_;unfold bindC;rw[Cf fun v a=>(List.nodup_cons.mp nd).1 (List.of_mem_zip a).1,if_neg hk];simp
 |p::P,w::vs,i+1,m,nd,h1,h2,hk=>by
  unfold bindC;exact Cg (List.nodup_cons.mp nd).2 (‹_›) (‹_›) hk
noncomputable def start (N:List Str) (vs:List V):St:=vs.map some++List.replicate (N.length - vs.length) none
noncomputable def yP (CX:Em) (P:Program) (w:World) (K:W.Frag) (mg:Str->Option Value) (base:Heap) (N:List Str) (qual:Str) (scope:Scope) (f:Addr) (cd:Value) (A:Around) (outer:List Env) (s:Shared) (H:Hp) (E:XK):Cx where
 prog:=P
 w:=w
 K:=K
 mg:=mg
 base:=base
 A:=A.deeper (envOfC qual scope s.heap.objs.size f cd)
 N:=N
 s₀:=s
 H₀:=H
 env:=envOfC qual scope s.heap.objs.size f cd
 outer:=outer
 stack:=envOfC qual scope s.heap.objs.size f cd::outer
 ex:=[]
 calm:=true
 fn:=fun _=>true
 pn:=[]
 xe:=fun e d=>wpAny (model P w) (A.deeper (envOfC qual scope s.heap.objs.size f cd)) (leaving (envOfC qual scope s.heap.objs.size f cd) e) (fun _ a=>CX outer H s E e a) (fun i a=>CX outer H s E i a) d
theorem Eg {sc:Scope} {n:Nat} {x:Str} (h:sc.names.lookup x=some .cell): ∃c,(cellsFrom n sc.names []).lookup x=some c:=by
 have q:=W.cellsFrom_some _ n [] (.inl h);exact Option.isSome_iff_exists.mp q
theorem HB {CX:Em} {P:Program} {w:World} {K:W.Frag} {mg:Str->Option Value} {base:Heap} {N m:List Str} {qual:Str} {scope:Scope} {f:Addr} {cd:Value} {A:Around} {outer:List Env} {s s1:Shared} {H:Hp} {E:XK} {us:List Value} {vs:List V}
  (S:ma N m scope) (hd:A.handled=none) (a:Fq P w K mg base A outer s H) (O:vs.length=m.length) (r:Vals vs us)
  (x:InCallC s s.heap.objs.size (bindL (envOfC qual scope s.heap.objs.size f cd).kindOf (m.zip us) fun _=>none) (cellsFrom (s.heap.objs.size+1) scope.names []) (bindC (envOfC qual scope s.heap.objs.size f cd).kindOf (m.zip us) fun _=>none) s1):
  Inv (yP CX P w K mg base N qual scope f cd A outer s H E) [] (start N vs) H s1:=by
 have I:m.length<=N.length:=by have:=congrArg List.length S.pre;rw[List.length_take] at this;lia
 obtain⟨h1,tk,rfl,hk⟩:=x.done;have j: ∀b,b ∉ (yP CX P w K mg base N qual scope f cd A outer s H E).ex:=fun b z=>absurd (show b∈([]) from z) (by simp);refine⟨⟨a.mod,S.kind,rfl,rfl,Nat.le_refl _,fun y z c h1 d=>?_,fun y C=>?_,fun y c _ h=>?_,fun _=>hd,Around.frames_deeper a.frames,.inr ⟨rfl,rfl⟩,fun b z=>absurd z (j b),a.bs,a.bsz,fun b _ _=>j b,fun b z=>absurd z (j b),a.funs,a.frf⟩,
  rfl,a.bare,Un.kept hk,⟨_,x.toInCall.ns,fun i y v h1 d Q=>?_⟩,fun y c h=>⟨_,x.cell y c h⟩,a.hok.fresh (Nat.le_refl _),fun y c h=>?_,fun p B=>absurd (show p∈([]) from B) (by simp),a.hok.kept hk,?_⟩
 ·exact name_of_addr x.apart (PySem.mem_of_lookup h1) (PySem.mem_of_lookup d)
 ·
  rcases C with C|C
  ·exact Eg C
  ·exact absurd rfl (S.nofree _ (PySem.mem_of_lookup C))
 ·exact Nat.le_of_lt (x.above y c (PySem.mem_of_lookup h))
 ·have F:i<vs.length:=by
   unfold start at d;by_cases F:i<vs.length
   ·exact F
   ·
    rw[List.getElem?_append_right (by simpa using F)] at d;rw[List.getElem?_replicate] at d;split at d<;>cases d
  have ha:vs[i]?=some v:=by
   unfold start at d;rw[List.getElem?_append_left (by simpa using F)] at d;cases e:vs[i]?<;>simp_all
  obtain⟨u,G,J⟩:=r.get ha;have B:m[i]?=some y:=by
   rw[<-S.pre,List.getElem?_take_of_lt (by lia)];exact h1
  have n:m.Nodup:=by rw[<-S.pre];exact S.nd.sublist (List.take_sublist _ _)
  refine⟨u,J,?_⟩;rcases S.par y (List.mem_of_getElem? B) with k|k
  ·exact .inl ⟨k,Ce n B G k⟩
  ·
   obtain⟨c,e⟩:=Eg k;refine .inr ⟨.inl k,c,e,?_⟩;have q:=x.cell y c e;rw[Cg n B G (by show scope.names.lookup y≠_;rw[k];decide)] at q;exact q
 ·exact a.hok.fresh (Nat.le_of_lt (x.above y c (PySem.mem_of_lookup h)))
 ·
  unfold start;show _=N.length;rw[List.length_append,List.length_map,List.length_replicate];lia
theorem Gq {CX:Em} {P:Program} {w:World} {K:W.Frag} {mg:Str->Option Value} {base:Heap} {k:Nat} {f:Addr} {name qual:Str} {params:Arguments} {body:List Stmt} {scope:Scope} {X kV doc pm a ct Z:Value} {an od:Option Addr}
  {G:Array (Option Value)} {N B:List Str} {sp:Sp} (lk:K.lookup f=some ⟨Z,od,.func (W.fnOf name qual params body scope X kV doc pm an a ct),G⟩) (C:W.codeIn K a qual=true) (S:ma N B scope)
  (len: ∀vs H Q E,sp vs H Q E->vs.length=B.length)
  (
   hbody: ∀(A:Around) (outer:List Env) (s:Shared) (H:Hp) (vs:List V) (Q:VK) (E:XK),cG k (A.deeper (envOfC qual scope s.heap.objs.size f a))->sp vs H Q E->
   ∃t,ya (yP CX P w K mg base N qual scope f a A outer s H E) body t/\t {nx:=fun _ H'=>Q .non H',rt:=Q} (start N vs) H):
  uN P w K mg base CX (k+1) f (W.fnOf name qual params body scope X kV doc pm an a ct) B sp:=by
 refine⟨len,fun A outer s H args us vs Q E hr z hb r m=>?_⟩;have Y:=len _ _ _ _ m;have U:=z.mod.kin.keeps fun b o e=>(z.bs b o e).1;have lim:=z.mod.nolimit.keeps fun b o e=>(z.bs b o e).1;have i: ∀y∈B.zip us,scope.names.lookup y.1=some _\/(scope.names.lookup y.1=some _/\((cellsFrom (s.heap.objs.size+1) _ []).lookup y.1).isSome=true):=fun⟨n,v⟩ hy=>by
  rcases S.par n (List.of_mem_zip hy).1 with q|q
  ·exact .inl q
  ·exact .inr ⟨q,W.cellsFrom_some _ _ _ (.inl q)⟩
 refine codeAny_call_function hr.depth (U _ _ lk) rfl S.co S.gen rfl (W.codeRec_of U C) (hb _ _ _ _ ?_);refine wpAny_newFunctionEnv_cells S.kind i fun env he s1 x=>?_;subst he;refine⟨lim.keeps x.toInCall.keep,codeAny_func ?_⟩;obtain⟨t,ht,hq⟩:=hbody A _ s H vs Q E (hr.deeper _) m;have I:Inv (yP CX P w K mg _ N _ _ f _ A _ s H E) [] _ H s1:=HB S hr.hd z Y r x;refine wpAny_mono (ht [] s1 _ H _ I hq) (fun fl F j=>?_) fun e F j=>j;have fin: ∀{d:St} {H':Hp} {v:V} {u:Value},Inv (yP CX P w K mg base N qual scope f a A _ s H E) [] d H' F->RelV v u->Q v H'->CE outer P w H s Q u F:=
  fun{d H' v u} J O q=>⟨v,H',J.os,J.bare,J.base,J.hok,O,q⟩
 cases fl with
 |ret u=>
  obtain⟨v,d,H',J,O,q⟩:=j;exact fin J O q
 |next=>
  obtain⟨d,H',J,q⟩:=j;exact fin (v:=V.non) J rfl q
 |brk=>
  obtain⟨_,_,_,q⟩:=j;exact False.elim q
 |cont=>
  obtain⟨_,_,_,q⟩:=j;exact False.elim q
section
def XY (r:List V->Hp->VK->Prop) (t:TA):TE:=fun σ H Q=>t σ H fun vs a=>r vs a Q
theorem Jk {X:Cx} {x:Str} {p pos:Pos} {e:Expr} {a:List Expr} {t:TA} {id:String} {r:List V->Hp->VK->Prop} (hc:bP X (.builtin id) r) (hg:Gl X x) (hm:X.mg x=none) (m:bootBuiltins x=some (.builtin id)) (ha:PA X (e::a) t) (hn:x≠ "__name__" :=by decide) (i:(x == ("__debug__" : Str))=false:=by decide)
  (he:starEach (e::a) X.env=(false,eval e X.env)::starEach a X.env:=by rfl) (d:(backTo pos (starEach a X.env)).any (·.1)=false:=by rfl):PE X (.Call (.Name x p) (e::a) [] pos) (XY r t):=by
 intro j s σ H Q I h;refine wpAny_Call_Name_kw (t9 I hg hm m ?_ hn i);exact PyProof.Rows.callWith_builtin1 (lY (ha _ _ s σ H _ I h) fun us s1 vs u n v q1=>hc _ s1 σ u vs us Q n v q1) he d
theorem Hf (hc:bP X (.type T) r) (hg:Gl X x) (hm:X.mg x=none) (j:bootBuiltins x=some (.type T)) (ha:PA X (e::es) t) (hn:x≠ "__name__" :=by decide) (d:(x == ("__debug__" : Str))=false:=by decide) (he:starEach (e::es) X.env=(false,eval e X.env)::starEach es X.env:=by rfl) (a:(backTo pos (starEach es X.env)).any (·.1)=false:=by rfl):PE X (.Call (.Name x p) (e::es) [] pos) (XY r t):=by
 intro i s σ H Q I h;refine wpAny_Call_Name_kw (t9 I hg hm j ?_ hn d);exact PyProof.Rows.callWith_type1 (lY (ha _ _ s σ H _ I h) fun us s1 vs n m u q1=>hc _ s1 σ n vs us Q m u q1) he a
end
end L2
namespace HT
open PySem PyProof.Rows
section
open PySem.SeqAt
open PySem.AutoSeq1 (wpAny_loadPart')
open PySem.MeetsSeq PySem.MeetsSeq2 PySem.MeetsSeq3
end
section
theorem NP (ht:IsTup s.heap t vs.toArray) (hb:IsTup s.heap b ws.toArray) (y:vs≠[]) (h1:ws= []->Q (.ref t) s) (u:ws≠[]->Q (.ref s.heap.objs.size) {s with heap:=s.heap.push {cls:= .type "tuple",data:= .seq (vs++ws).toArray}}) (hsz:vs.length+ws.length<=sizeLine):wpAny (model prog w) A (binaryOp .Add (.ref t) (.ref b)) Q E s:=by
 obtain⟨⟨cls,dd,data,i⟩,ho,hc,n,hd⟩:=id ht;obtain⟨⟨j,x,data2,v⟩,a,d,m,hd2⟩:=id hb;subst hc hd d hd2;have e:vs.toArray++ws.toArray=(vs++ws).toArray:=by simp
 by_cases hw:ws= []
 ·exact concat_meets ⟨_,ho,rfl⟩ ⟨_,a,rfl⟩ noFill_tuple_add seq_tuple_add PySem.F.slot_tuple_add PySem.F.entry_tuple_add (PySem.F.args_tuple_add_2 _ _)
   (tuple_addW1 t b _ _ n m dd _ i _ (by simp_all) (by simp_all)) ⟨ho,a,h1 hw⟩
 ·refine concat_meets ⟨_,ho,rfl⟩ ⟨_,a,rfl⟩ noFill_tuple_add seq_tuple_add PySem.F.slot_tuple_add PySem.F.entry_tuple_add (PySem.F.args_tuple_add_2 _ _)
   (tuple_addW2 t b _ _ n m dd _ i _ (by simp_all) (by simp_all) (by trivial)) ⟨ho,a,?_⟩
  rw[e];exact u hw
noncomputable def rG (n d:Nat):Option Int->Nat
 |none=>d
 |some v=>if v<0 then(v+(n:Int)).toNat else min v.toNat n
theorem DL (n d:Nat):rG n d none=d:=rfl
theorem FE (n d k:Nat):rG n d (some (k:Int))=min k n:=rfl
theorem ahO (n d:Nat) (hd:d<=n) (o:Option Int):rG n d o<=n:=by
 cases o with
 |none=>exact hd
 |some v=>
  show(if v<0 then(v+(n)).toNat else min _ n)<=n;by_cases a:v<0
  ·lia
  ·rw[if_neg a];exact Nat.min_le_right _ _
theorem GA (v:Int) (n d:Nat):(if v<0 then max (v+(n:Int)) 0 else min v (n:Int))=((rG n d (some v):Nat):Int):=by
 show(if v<0 then max _ 0 else min v _)=(((if v<0 then(v+(n)).toNat else min _ n)));by_cases a:v<0
 ·simp_all
 ·lia
theorem Fn (lo a:Option Int) (n:Nat):Builtin.Slice.sliceAdjust lo a 1 (n:Int)=(((rG n 0 lo:Nat):Int),((rG n n a:Nat):Int)):=by
 refine Prod.ext ?_ ?_
 ·
  cases lo with
  |none=>rfl
  |some v=>exact GA v n 0
 ·
  cases a with
  |none=>rfl
  |some v=>exact GA v n n
theorem EL (i j:Nat):Builtin.Slice.slicePlaces (i:Int) (j:Int) 1=j - i:=by
 unfold Builtin.Slice.slicePlaces;have h1:(1:Int) > 0:=by lia
 simp;split<;>lia
theorem zu (p:IsPart v o) (h:Q o s):wpAny (model prog w) A (Builtin.Slice.slicePartIndex v) Q E s:=by
 cases p with
 |none=>exact slicePart_none h
 |int i t=>exact slicePart_int h
theorem wq {lo:Option Int} {Q:Int×Int×Nat->Shared->Prop} (j:s.heap.IsSliceOf sl vl vu .none) (pl:IsPart vl lo) (pu:IsPart vu hi) (h:Q (((rG n 0 lo:Nat):Int),1,rG n n hi - rG n 0 lo) s):wpAny (model prog w) A (Builtin.Slice.sliceApplied (.ref sl) (pure (n:Int))) Q E s:=by
 obtain⟨os,d,i,a⟩:=id j;refine wpAny_bind (wpAny_bind (wpAny_field d a (x:=vl) rfl (wpAny_bind (wpAny_field d a (x:=vu) rfl (wpAny_bind (wpAny_field d a rfl (wpAny_pure ?_)))))));refine wpAny_bind (slicePart_none ?_);refine wpAny_bind (zu pl (wpAny_bind (zu pu (wpAny_bind (wpAny_pure ?_)))));show wpAny _ _ (match Builtin.Slice.sliceAdjust lo hi 1 _ with|(lo,hi)=>pure (lo,(1:Int),Builtin.Slice.slicePlaces lo hi 1)) _ _ s
 rw[Fn lo hi n];show wpAny _ _ (pure _) _ _ s;rw[EL];exact wpAny_pure h
theorem Jd (xs:Array Value) (i k:Nat):((List.range k).filterMap fun(m:Nat)=>xs[((i:Int)+(m:Int)*1).toNat]?).toArray=((xs.toList.drop i).take k).toArray:=by
 have e:(fun(m:Nat)=>xs[((i)+(m:Int)*1).toNat]?)=fun m=>xs[i+m]?:=by
  grind
 rw[e];have:=pick_run xs i k;rw[List.filterMap_map] at this;have a:((fun x=>xs[x]?)∘fun x=>i+x)=fun m=>xs[i+m]?:=rfl;rw[a] at this;rw[this]
theorem vD {lo:Option Int} (ht:IsTup s.heap t items) (v:s.heap.IsSliceOf u vl vu .none) (pl:IsPart vl lo) (pu:IsPart vu d) (hw: ¬(rG items.size 0 lo=0/\rG items.size items.size d=items.size)) (h:Q (.ref s.heap.objs.size) {s with heap:=s.heap.push {cls:= .type "tuple",data:= .seq ((items.toList.drop (rG items.size 0 lo)).take (rG items.size items.size d - rG items.size 0 lo)).toArray}}) (hsz:items.size<=sizeLine):wpAny (model prog w) A (getItem (.ref t) (.ref u)) Q E s:=by
 have a:=by
  show((items.toList.drop (rG items.size 0 lo)).take (rG items.size items.size d - rG items.size 0 lo)).toArray.size<=sizeLine;rw[List.size_toArray,List.length_take,List.length_drop,Array.length_toList];lia
 obtain⟨os,n,m,x⟩:=id v;have j:s.TypeIs (.ref u) _:=⟨os,n,m⟩;unfold getItem
 try with_reducible refine wpAny_holding ?_
 refine wpAny_bind (wpAny_sequenceKey ht.typeIs (rfl) ?_);refine wpAny_bind (wpAny_callSpecial?_slot ht.typeIs PyProof.Rows.slot_tuple_getitem
  (wpAny_call_entry PyProof.Rows.slot_tuple_getitem ht.typeIs entry_tuple_getitem ?_ (args_tuple_getitem _ _)))
 show wpAny _ _ (Builtin.Tuple.tupleItemsOf _ >>= _) _ _ s;refine wpAny_bind (tupleItemsOf_ ht ?_);refine wpAny_bind (wpAny_typeOf j ?_);refine wpAny_bind (wq v pl pu ?_);have i: ¬((((rG items.size 0 lo):Int) == 0&&(1:Int) == 1&&(rG items.size items.size d - rG items.size 0 lo) == items.size)=true):=by
  simp_all
 show wpAny _ _ (if(((rG _ 0 lo):Int) == 0&&(1) == 1&&(rG _ _ d - rG _ 0 lo) == items.size)=true then _ else _) _ _ s;rw[if_neg i,Jd]
 first
  |lia
  |exact wpAny_bind (wpAny_newObj_type (wpAny_bind (wpAny_pure (wpAny_pure ⟨_,rfl,wpAny_pure h⟩))) a)
  |rfl
  |rfl
end
end HT
namespace L2
open PySem PySem.Spec PyProof.Rows
noncomputable abbrev TO:=St->Hp->(Option Int->Hp->Prop)->Prop
def PO (X:Cx) (e:Option Expr) (t:TO):Prop:=
 ∀(a:List (Addr×Obj)) (s:Shared) (σ:St) (H:Hp) (Q:Option Int->Hp->Prop),Inv X a σ H s->t σ H Q->
  wpAny (model X.prog X.w) X.A (evalPart e X.env) (fun u d=> ∃o H',Inv X a σ H' d/\IsPart u o/\Q o H') X.xe s
def Fw:TO:=fun _ H Q=>Q none H
def NY (t:TE):TO:=fun σ H Q=>t σ H fun x a=> ∃i,x = .int i/\Q (some i) a
section
theorem sT:PO X none Fw:=by
 intro a s σ H Q I h;exact wpAny_pure ⟨_,H,I,.none,h⟩
theorem ou (h:PE X e te):PO X (some e) (NY te):=by
 intro a s σ H Q I hw;refine lY (h _ s σ H _ I hw) fun u s1 x j d m q1=>?_;obtain⟨i,rfl,q⟩:=q1;obtain⟨t,rfl⟩:=m;exact⟨_,j,d,.int i t,q⟩
def GG (X:Cx) (r:V->Option Int->Option Int->Hp->VK->Prop):Prop:=
 ∀(a:List (Addr×Obj)) (s:Shared) (σ:St) (H:Hp) (x:V) (v j m:Value) (lo i:Option Int) (d:Addr) (Q:VK),Inv X a σ H s->RelV x v->s.heap.IsSliceOf d j m .none->IsPart j lo->IsPart m i->r x lo i H Q->
  ∃T id,typeLookup (.type T) "__getitem__" = pure (some (.builtin id))/\s.TypeIs v T/\wpAny (model X.prog X.w) X.A (getItem v (.ref d)) (EP X a σ Q) X.xe s
theorem GG.or (h:GG X r) (h':GG X r'):GG X (fun x lo a H Q=>r x lo a H Q\/r' x lo a H Q):=by
 intro i s σ H x v n u lo a d Q I m j pl pu q;rcases q with q|q
 ·exact h _ s σ H x v n u lo a d Q I m j pl pu q
 ·exact h' _ s σ H x v n u lo a d Q I m j pl pu q
def tSl (r:V->Option Int->Option Int->Hp->VK->Prop) (i:TE) (a d:TO):TE:=fun σ H Q=>i σ H fun x n=>a σ n fun l j=>d σ j fun u m=>r x l u m Q
theorem nF {X:Cx} {e:Expr} {n:TE} {lo a:Option Expr} {B j:TO} {pos E:Pos} {r:V->Option Int->Option Int->Hp->VK->Prop} (hr:GG X r) (he:PE X e n) (C:PO X lo B) (hu:PO X a j):PE X (.Subscript e (.Slice lo a none E) pos) (tSl r n B j):=by
 intro d s σ H Q I h;refine Subscript_ (lY (he _ s σ H _ I h) fun v s1 x P O Z q1=>?_);refine wpAny_Slice (lY (C _ s1 σ P _ O q1) fun y F l U G pl q2=>lY (hu _ F σ U _ G q2) fun z m u i W pu q3=>?_);refine wpAny_pure ?_;have Y:Inv X _ σ i {m with heap:=m.heap.push {cls:= .type "slice",data:= .fields #[y,z,.none]}}:=W.kept fun b ob q=>Heap.get?_push_of_some _ q;obtain⟨T,id,J,ht,hg⟩:=hr _ _ σ i x v y z l u _ Q Y Z (Heap.IsSliceOf.new ..) pl pu q3;exact tail_any ht J hg (rfl)
noncomputable def k9 (xs:List V) (lo a:Option Int):List V:=(xs.drop (HT.rG xs.length 0 lo)).take (HT.rG xs.length xs.length a - HT.rG xs.length 0 lo)
theorem xY (xs:List V) (lo a:Option Int):(k9 xs lo a).length<=xs.length:=by
 unfold k9;rw[List.length_take,List.length_drop];lia
def X8 (K:W.Frag):V->Option Int->Option Int->Hp->VK->Prop:=fun x lo d H Q=> ∃a xs,x = .ref a/\n_ K H a xs/\
 ¬(HT.rG xs.length 0 lo=0/\HT.rG xs.length xs.length d=xs.length)/\∀p,H p=none->Q (.ref p) (upd H p (.tup (k9 xs lo d)))
theorem Uz:GG X (X8 X.K):=by
 intro i s σ H x v z B lo j y Q I u m pl pu h;obtain⟨a,xs,rfl,hx,hw,q⟩:=h;cases u;obtain⟨d,r,ht,n⟩:=I.tuple hx;have hlen:d.toArray.size=xs.length:=by exact r.length.symm
 refine⟨_,_,rfl,ht.typeIs,?_⟩;refine HT.vD ht m pl pu (by rw[hlen];exact hw) ?_ (by simp_all);rw[hlen];refine⟨.ref _,_,I.laid (fun b ob q=>Heap.get?_push_of_some _ q) (Nat.le_refl _) ?_,rfl,q _ (I.hok.fresh (Nat.le_refl _))⟩;exact⟨Nat.le_trans (xY xs lo j) n,_,(r.drop _).take _,IsTup.new _ _⟩
def IZ (K:W.Frag):R2:=fun x y H Q=> ∃a b xs d,x = .ref a/\y = .ref b/\n_ K H a xs/\n_ K H b d/\xs≠[]/\xs.length+d.length<=sizeLine/\
 (d= []->Q (.ref a) H)/\(d≠[]->∀p,H p=none->Q (.ref p) (upd H p (.tup (xs++d))))
theorem Vals.C_ (r:Vals xs us):us= []↔xs= []:=by
 cases r<;>simp_all
theorem Nb:jS X (binaryOp .Add) (IZ X.K):=by
 intro j s σ H x y v u Q I G E h;obtain⟨a,b,xs,J,rfl,rfl,ha,hb,hx,C,q1,q2⟩:=h;cases G;cases E;obtain⟨B,i,F,_⟩:=I.tuple ha;obtain⟨m,d,n,_⟩:=I.tuple hb;refine HT.NP F n (fun z=>hx (i.C_.mp z)) (fun z=>⟨.ref a,H,I,rfl,q1 (d.C_.mp z)⟩) (fun z=>?_) (by rw[<-i.length,<-d.length];exact C);refine⟨.ref _,_,I.laid (fun b ob q=>Heap.get?_push_of_some _ q) (Nat.le_refl _) ?_,rfl,q2 (fun w=>z (d.C_.mpr w)) _ (I.hok.fresh (Nat.le_refl _))⟩;exact⟨by simp_all,_,i.append d,IsTup.new _ _⟩
end
noncomputable def L7 (n:Nat) (i:Int):Option Nat:=if 0<=i then(if i<n then some i.toNat else none) else if -(n:Int)<=i then some (i+n).toNat else none
noncomputable def x_ {α:Type} (xs:List α) (i:Int):Option α:=(L7 xs.length i).bind fun j=>xs[j]?
theorem F7 (h:L7 n i=some j):seqIndex? i n=some j/\j<n/\-(n:Int)<=i/\i<n:=by
 unfold L7 at h;by_cases h0:0<=i
 ·
  rw[if_pos h0] at h;by_cases h1:i<n
  ·
   rw[if_pos h1] at h;have e:=Option.some.inj h;exact⟨by rw[seqIndex_of h0 h1,e],by lia,by lia,h1⟩
  ·simp_all
 ·
  rw[if_neg h0] at h;by_cases h1 : -(n)<=i
  ·
   rw[if_pos h1] at h;have e:=Option.some.inj h;exact⟨by rw[seqIndex_neg (by lia) h1,e],by lia,h1,by lia⟩
  ·simp_all
theorem Du {v:α} (h:x_ xs i=some v): ∃j,seqIndex? i xs.length=some j/\xs[j]?=some v/\j<xs.length/\-(xs.length:Int)<=i/\i<xs.length:=by
 unfold x_ at h;cases e:L7 xs.length i with
 |none=>simp_all
 |some j=>
  rw[e] at h;obtain⟨h1,m,a,d⟩:=F7 e;exact⟨j,h1,h,m,a,d⟩
theorem NQ {j:Nat} {v:α} (h:xs[j]?=some v):x_ xs (j:Int)=some v:=by
 have a:=(List.getElem?_eq_some_iff.mp h).1;have e:L7 xs.length (j)=some j:=by
  unfold L7;rw[if_pos (by lia),if_pos (by lia)];simp
 unfold x_;rw[e];exact h
def Dw (b:Expr):Prop:= ∀o i,subscripted b false o i=operate [o,i] (getItem o i)
def Ej (X:Cx) (r:R2):Prop:=
 ∀(value slice:Expr) (a:List (Addr×Obj)) (s:Shared) (σ:St) (H:Hp) (x y:V) (v u:Value) (Q:VK),Inv X a σ H s->RelV x v->RelV y u->r x y H Q->
  subscripted slice false v u=operate [v,u] (getItem v u)->wpAny (model X.prog X.w) X.A (subscriptTail value slice v u) (EP X a σ Q) X.xe s
def XN (X:Cx) (id:String) (r:V->List V->Hp->VK->Prop):Prop:=
 ∀(a:List (Addr×Obj)) (s:Shared) (σ:St) (H:Hp) (x:V) (xs:List V) (v:Value) (us:List Value) (Q:VK),Inv X a σ H s->RelV x v->Vals xs us->r x xs H Q->
  wpAny (model X.prog X.w) X.A (call (.builtin id) (v::us)) (EP X a σ Q) X.xe s
section
theorem Ej.or (h:Ej X r) (h':Ej X r'):Ej X (fun x y H Q=>r x y H Q\/r' x y H Q):=by
 intro value slice d s σ H x y v u Q I i a q j;rcases q with q|q
 ·exact h _ _ _ s σ H x y v u Q I i a q j
 ·exact h' _ _ _ s σ H x y v u Q I i a q j
theorem N5 (hr:Ej X r) (ha:PE X a ta) (hb:PE X b tb) (m:Dw b):PE X (.Subscript a b pos) (GJ r ta tb):=by
 intro d s σ H Q I h;exact Subscript_ (Xz ha hb I h fun v u i x y n j B z q=>hr a b _ i σ n x y v u Q j B z q (m _ _))
def Ye (K:W.Frag):R2:=fun x y H Q=> ∃p xs i v,x = .ref p/\y = .int i/\bO K H p xs/\x_ xs i=some v/\Q v H
def Yc (K:W.Frag):R2:=fun x y H Q=> ∃p xs i v,x = .ref p/\y = .int i/\n_ K H p xs/\x_ xs i=some v/\Q v H
def Yd:R2:=fun x y H Q=> ∃z i c,x = .str z/\y = .int i/\z.length<=sizeLine/\x_ z.cps.toList i=some c/\Q (.str ⟨#[c]⟩) H
theorem Nj:Ej X (Ye X.K):=by
 intro value slice n s σ H x y v u Q I U J h B;obtain⟨p,xs,i,z,rfl,rfl,P,he,q⟩:=h;cases U;obtain⟨t,rfl⟩:=J;obtain⟨a,r,pl,W⟩:=I.list P;obtain⟨j,h1,F,Y,O,G⟩:=Du he;obtain⟨w,C,m⟩:=r.get F;have E:=r.length;have hn:=wN;have fin:EP X _ σ Q w s:=⟨z,H,I,m,q⟩;by_cases h0:0<=i
 ·have d:=by
   rw[seqIndex_of h0 G] at h1;exact Option.some.inj h1
  exact item_listR pl.isList h0 (by lia) (by rw[d];simpa using C) fin B
 ·have d:(i+(a.toArray.size)).toNat=j:=by
   rw[seqIndex_neg (by lia) O] at h1;rw[List.size_toArray,<-E];exact Option.some.inj h1
  exact subscriptTail_builtinR pl.isList.typeIs slot_list_getitem.lookup
   (wpAny_getItem_list_neg pl.isList (by lia) (by simp_all) (by lia) (by rw[d];simpa using C) ⟨rfl,fin⟩) B
theorem WM:Ej X (Yc X.K):=by
 intro value slice d s σ H x y v u Q I F C h B;obtain⟨p,xs,i,z,rfl,rfl,E,he,q⟩:=h;cases F;obtain⟨t,rfl⟩:=C;obtain⟨n,r,pl,P⟩:=I.tuple E;obtain⟨j,h1,m,U,W,O⟩:=Du he;obtain⟨w,G,a⟩:=r.get m;have J:=r.length;have hn:=wN;have fin:EP X _ σ Q w s:=⟨z,H,I,a,q⟩;exact subscriptTail_builtinR pl.typeIs slot_tuple_getitem.lookup
  (getItem_tuple (j:=j) pl (by lia) (by lia) (by simp_all) (by simpa using G) ⟨rfl,fin⟩) B
theorem WN:Ej X Yd:=by
 intro value slice a s σ H x y v u Q I F C h B;obtain⟨z,i,c,rfl,rfl,G,he,q⟩:=h;obtain⟨t,rfl⟩:=F;obtain⟨t',rfl⟩:=C;obtain⟨j,h1,m,J,E,n⟩:=Du he;have d:z.cps.toList.length=z.length:=rfl;rw[d] at h1 E n;have hn:=wN;exact tail_any (typeIs_str s z t) slot_str_getitem.lookup (getItem_str (by
  lia) (by rw[h1];simpa using m) ⟨.str _,H,I.tok _,⟨_,rfl⟩,q⟩) B
def rIx (K:W.Frag):R2:=fun x y H Q=>Ye K x y H Q\/Yc K x y H Q\/Yd x y H Q
theorem WO:Ej X (rIx X.K):=Nj.or (WM.or WN)
theorem EX (a:List Value) (n j:Nat) (u:Value):Obj.mapSeq (·.setIfInBounds j u) {cls:= .type "list",data:= .seq a.toArray n}={cls:= .type "list",data:= .seq (a.set j u).toArray n}:=by
 simp[Obj.mapSeq]
theorem Inv.lst (I:Inv X pins σ H s) (h:H p=some (.lst xs)):
  ∃(a:List Value) (n:Nat),Vals xs a/\s.heap.get? p=some {cls:= .type "list",data:= .seq a.toArray n}/\xs.length<=sizeLine:=by
 obtain⟨z,a,n,r,e⟩:=I.hok p _ h;exact⟨a,n,r,e,z⟩
theorem Inv.Vd {a:List Value} (I:Inv X pins σ H s) (h:H p=some (.lst xs)) (ho:s.heap.get? p=some {cls:= .type "list",data:= .seq a.toArray n}) (hf:f {cls:= .type "list",data:= .seq a.toArray n}={cls:= .type "list",data:= .seq its'.toArray n'}) (r:Vals ys its') (d:ys.length<=sizeLine) (t:Nat):
  Inv X pins σ (upd H p (.lst ys)) {s with heap:=s.heap.update p f,toks:=t}:=by
 have e:(s.heap.update p f).get? p=some {cls:= .type "list",data:= .seq its'.toArray n'}:=by
  rw[Heap.get?_update_self f ho (by rw[hf]<;>rfl),hf]
 refine I.write (by rw[h];trivial) (.inl rfl) (fun b u hb q=>(Heap.get?_update_other _ _ (Ne.symm hb)).trans q) ⟨_,e⟩ ?_;exact⟨d,_,n',r,e⟩
def X9:V->V->V->Hp->(Hp->Prop)->Prop:=fun o i v H Q=> ∃p xs k j,o = .ref p/\i = .int k/\H p=some (.lst xs)/\L7 xs.length k=some j/\Q (upd H p (.lst (xs.set j v)))
theorem set_list:NT X X9:=by
 intro d s σ H o i v J U u Q I F C G h;obtain⟨p,xs,k,j,rfl,rfl,m,z,q⟩:=h;cases F;obtain⟨t,rfl⟩:=C;obtain⟨a,n,r,ho,P⟩:=I.lst m;obtain⟨h1,O,B,E⟩:=F7 z;have y:=r.length;have hn:=wN;have x:=
  I.Vd m ho (EX _ n j u) (r.set G j) (by simp_all) s.toks
 by_cases h0:0<=k
 ·have hk:=by
   rw[seqIndex_of h0 E] at h1;exact Option.some.inj h1
  exact W.ki_setAt ho h0 (by lia) (by simp_all) (by rw[hk];exact⟨_,x,q⟩)
 ·have hk:(k+(a.toArray.size)).toNat=j:=by
   rw[seqIndex_neg (by lia) B] at h1;rw[List.size_toArray,<-y];exact Option.some.inj h1
  exact W.ki_setBack ho (by lia) (by simp_all) (by lia) (by rw[hk];exact⟨_,x,q⟩)
theorem Ct (lo a:Option Int) (n:Nat):(sliceBounds lo a none n).1=((HT.rG n 0 lo:Nat):Int)/\(sliceBounds lo a none n).2.1=((HT.rG n n a:Nat):Int)/\(sliceBounds lo a none n).2.2=1:=by
 refine⟨?_,?_,rfl⟩
 ·
  cases lo with
  |none=>rfl
  |some i=>
   simp only[sliceBounds,HT.rG,Option.getD_none,show(1:Int) > 0 by decide,if_true];by_cases h:i<0
   ·simp only[h,if_true]<;>lia
   ·simp only[h,if_false]<;>lia
 ·
  cases a with
  |none=>rfl
  |some i=>
   simp only[sliceBounds,HT.rG,Option.getD_none,show(1:Int) > 0 by decide,if_true];by_cases h:i<0
   ·simp only[h,if_true]<;>lia
   ·simp only[h,if_false]<;>lia
theorem AL (a:List Value) (lo d:Option Int):slicePick a.toArray lo d none=((a.drop (HT.rG a.length 0 lo)).take (HT.rG a.length a.length d - HT.rG a.length 0 lo)).toArray:=by
 obtain⟨h1,j,i⟩:=Ct lo d _;unfold slicePick;rw[h1,j,i];simp only[sliceRange_one,pick_run]<;>rfl
def ahQ (K:W.Frag):V->Option Int->Option Int->Hp->VK->Prop:=fun x lo d H Q=> ∃a xs,x = .ref a/\bO K H a xs/\∀p,H p=none->Q (.ref p) (upd H p (.lst (k9 xs lo d)))
theorem Ml:GG X (ahQ X.K):=by
 intro d s σ H x v z B lo j y Q I u m pl pu h;obtain⟨a,xs,rfl,hx,q⟩:=h;cases u;obtain⟨i,r,ht,n⟩:=I.list hx;have hlen:=r.length;refine⟨_,_,rfl,ht.isList.typeIs,?_⟩;refine wpAny_getItem_list_slice ht.isList m pl pu .none (by simp) ?_ (by simp_all);rw[AL,<-hlen];refine⟨.ref _,_,I.laid (fun b ob q=>Heap.get?_push_of_some _ q) (Nat.le_refl _) ?_,rfl,q _ (I.hok.fresh (Nat.le_refl _))⟩;exact⟨Nat.le_trans (xY xs lo j) n,_,0,(r.drop _).take _,Heap.get?_push_size _ rfl⟩
noncomputable def pR:V->Bool
 | .non=>true
 | .bl _=>true
 | .int _=>true
 | .str _=>true
 |_=>false
noncomputable def Ui:V->V->Bool
 | .non,.non=>true
 | .bl a,.bl b=>a == b
 | .bl a,.int b=>(if a then 1 else 0) == b
 | .int a,.bl b=>a == (if b then 1 else 0)
 | .int a,.int b=>a == b
 | .str a,.str b=>a == b
 |_,_=>false
theorem Xo (i:RelV y u) (d:RelV x v) (m:pR y=true) (j:pR x=true):SeqAt.EqAt A s u v (Ui y x):=by
 cases y with
 |non=>
  cases i;cases x with
  |non=>cases d;exact SeqAt.EqAt.same _
  |bl b=>cases d;exact SeqAt.EqAt.none_bool b
  |int b=>obtain⟨t,rfl⟩:=d;exact SeqAt.EqAt.none_int b t
  |str b=>obtain⟨t,rfl⟩:=d;exact SeqAt.EqAt.none_str b t
  |_=>trivial
 |bl a=>
  cases i;cases x with
  |non=>cases d;exact SeqAt.EqAt.bool_none a
  |bl b=>cases d;exact SeqAt.EqAt.bool_bool a b
  |int b=>obtain⟨t,rfl⟩:=d;exact SeqAt.EqAt.bool_int a b t
  |str b=>obtain⟨t,rfl⟩:=d;exact SeqAt.EqAt.bool_str a b t
  |_=>trivial
 |int a=>
  obtain⟨t',rfl⟩:=i;cases x with
  |non=>cases d;exact SeqAt.EqAt.int_none a t'
  |bl b=>cases d;exact SeqAt.EqAt.int_bool a t' b
  |int b=>obtain⟨t,rfl⟩:=d;exact SeqAt.EqAt.int_int a t' b t
  |str b=>obtain⟨t,rfl⟩:=d;exact SeqAt.EqAt.int_str a t' b t
  |_=>trivial
 |str a=>
  obtain⟨t',rfl⟩:=i;cases x with
  |non=>cases d;exact SeqAt.EqAt.str_none a t'
  |bl b=>cases d;exact SeqAt.EqAt.str_bool a t' b
  |int b=>obtain⟨t,rfl⟩:=d;exact SeqAt.EqAt.str_int a t' b t
  |str b=>obtain⟨t,rfl⟩:=d;exact SeqAt.EqAt.str_str a t' b t
  |_=>trivial
 |_=>trivial
noncomputable def LD (x:V) (u:Value):Bool:=match u with
 | .none=>Ui .non x
 | .bool b=>Ui (.bl b) x
 | .int i _=>Ui (.int i) x
 | .str z _=>Ui (.str z) x
 |_=>false
theorem LC (r:RelV y u) (f:pR y=true):LD x u=Ui y x:=by
 cases y with
 |non=>cases r;rfl
 |bl b=>cases r;rfl
 |int i=>obtain⟨t,rfl⟩:=r;rfl
 |str z=>obtain⟨t,rfl⟩:=r;rfl
 |_=>trivial
theorem v_: ∀{xs:List V} {us:List Value},Vals xs us->xs.all pR=true->us.any (LD x)=xs.any fun y=>Ui y x
 |_,_,.nil,_=>rfl
 |y::xs,u::us,.cons r t,f=>by
  rw[List.all_cons,Bool.and_eq_true] at f;rw[List.any_cons,List.any_cons,LC r f.1,v_ t f.2]
theorem rT (i:RelV x v) (d:pR x=true): ∀{xs:List V} {us:List Value},Vals xs us->xs.all pR=true->∀u∈us,SeqAt.EqAt A s u v (LD x u)
 |_,_,.nil,_=>fun u a=>by cases a
 |y::xs,u::us,.cons r t,f=>fun j a=>by
  rw[List.all_cons,Bool.and_eq_true] at f;rcases List.mem_cons.mp a with rfl|a
  ·rw[LC r f.1];exact Xo r i f.1 d
  ·exact rT i d t f.2 j a
noncomputable def HX (x:V) (xs:List V):Bool:=xs.any fun y=>Ui y x
def rIn (K:W.Frag) (neg:Bool):R2:=fun x y H Q=> ∃p xs,y = .ref p/\(bO K H p xs\/n_ K H p xs)/\pR x=true/\xs.all pR=true/\Q (.bl (if neg then !HX x xs else HX x xs)) H
theorem Hk:jS X (compareOp .In) (rIn X.K false):=by
 intro i s σ H x y v u Q I m z h;obtain⟨p,xs,rfl,d,j,fs,q⟩:=h;cases z;rcases d with d|d
 ·
  obtain⟨a,r,pl,n⟩:=I.list d;refine SeqAt.in_listAt _ pl.isList (fun w hw=>rT m j r fs w (by simp_all)) ⟨.bl _,H,I,rfl,?_⟩;rw[show a.toArray.any _=a.any (LD x) by simp,v_ r fs];exact q
 ·
  obtain⟨a,r,pl,n⟩:=I.tuple d;refine SeqAt.in_tupleAt _ pl (fun w hw=>rT m j r fs w (by simp_all)) ⟨.bl _,H,I,rfl,?_⟩;rw[show a.toArray.any _=a.any (LD x) by simp,v_ r fs];exact q
theorem CY:jS X (compareOp .NotIn) (rIn X.K true):=by
 intro i s σ H x y v u Q I m z h;obtain⟨p,xs,rfl,d,j,fs,q⟩:=h;cases z;rcases d with d|d
 ·
  obtain⟨a,r,pl,n⟩:=I.list d;refine SeqAt.notIn_listAt (LD x) pl.isList (fun w hw=>rT m j r fs w (by simpa using hw)) ⟨.bl _,H,I,rfl,?_⟩;rw[show a.toArray.any (LD x)=a.any (LD x) by simp,v_ r fs];exact q
 ·
  obtain⟨a,r,pl,n⟩:=I.tuple d;refine SeqAt.notIn_tupleAt (LD x) pl (fun w hw=>rT m j r fs w (by simpa using hw)) ⟨.bl _,H,I,rfl,?_⟩;rw[show a.toArray.any (LD x)=a.any (LD x) by simp,v_ r fs];exact q
theorem CV:jS X (compareOp .NotIn) (fun x y H Q=> ∃i j,x = .str i/\y = .str j/\Q (.bl (!(!(Builtin.Str.occurrences j i 0 j.length 1).isEmpty))) H):=by
 intro a s σ H x y v u Q I m d h;obtain⟨i,j,rfl,rfl,q⟩:=h;obtain⟨t,rfl⟩:=m;obtain⟨t',rfl⟩:=d;exact notIn_str ⟨.bl _,H,I,rfl,q⟩
theorem Dr:bP X (.builtin "len") (fun xs H Q=> ∃p d,xs= [.ref p]/\(bO X.K H p d\/n_ X.K H p d)/\Q (.int d.length) H):=by
 intro m s σ H xs us Q I r h;obtain⟨p,d,rfl,a,q⟩:=h;obtain⟨u,rfl,v⟩:=vals1 r;cases v;have hn:=wN;rcases a with a|a
 ·
  obtain⟨i,j,pl,n⟩:=I.list a;have hlen:=j.length;exact Calls.call_len_list pl.isList (by simp only[List.size_toArray]<;>lia) ⟨.int _,H,I.tok _,⟨s.toks+1,by simp_all⟩,q⟩
 ·
  obtain⟨i,j,pl,n⟩:=I.tuple a;have hlen:=j.length;exact len_tuple pl (by simp only[List.size_toArray]<;>lia) ⟨.int _,H,I.tok _,⟨s.toks+1,by simp_all⟩,q⟩
theorem Dq:bP X (.builtin "len") (fun xs H Q=> ∃z,xs= [.str z]/\z.length<=sizeLine/\Q (.int z.length) H):=by
 intro a s σ H xs us Q I r h;obtain⟨z,rfl,d,q⟩:=h;obtain⟨u,rfl,t,rfl⟩:=vals1 r;have hn:=wN;exact len_str (by lia) ⟨.int _,H,I.tok _,⟨_,rfl⟩,q⟩
theorem bP.or (h:bP X f r) (h':bP X f r'):bP X f (fun xs H Q=>r xs H Q\/r' xs H Q):=by
 intro a s σ H xs us Q I rs q;rcases q with q|q
 ·exact h _ s σ H xs us Q I rs q
 ·exact h' _ s σ H xs us Q I rs q
theorem Dp:bP X (.type "list") (fun xs H Q=> ∃p d,xs= [.ref p]/\(bO X.K H p d\/n_ X.K H p d)/\∀l,H l=none->Q (.ref l) (upd H l (.lst d))):=by
 intro x s σ H xs us Q I r h;obtain⟨p,d,rfl,v,q⟩:=h;obtain⟨u,rfl,z⟩:=vals1 r;cases z;have fin: ∀a,Vals d a->d.length<=sizeLine->∀h' j,(∀b y,s.heap.get? b=some y->h'.get? b=some y)->
   h'.get? s.heap.objs.size=some _->EP X _ σ Q _ {s with heap:=h'}:=fun a i m h' j kp e=>
  ⟨.ref _,_,I.laid kp (Nat.le_refl _) (show jD _ _ _ h' _ (.lst d) from⟨m,a,j,i,e⟩),rfl,q _ (I.hok.fresh (Nat.le_refl _))⟩
 rcases v with v|v
 ·
  obtain⟨a,i,pl,m⟩:=I.list v;have hlen:=i.length;obtain⟨o,ho,hc,n,hd⟩:=pl.isList;exact call_list_seq p (.inl rfl) ho hc hd (fun h' j kp e=>fin _ i m h' j kp e) (by simp_all)
 ·
  obtain⟨a,i,pl,m⟩:=I.tuple v;have hlen:=i.length;obtain⟨o,ho,hc,n,hd⟩:=pl;exact call_list_seq p (.inr rfl) ho hc hd (fun h' j kp e=>fin _ i m h' j kp e) (by simp_all)
def Ut (K:W.Frag) (T:String) (x:V) (H:Hp):Prop:=match x with
 | .str _=>T = "str"
 | .int _=>T = "int"
 |
   .ref p=>(T = "list" /\∃xs,bO K H p xs)\/(T = "tuple" /\∃o,K.lookup p=some o/\o.cls = .type "tuple" /\o.dict=none)\/
   (T = "dict" /\((∃a,H p=some (.dK a))\/∃a,H p=some (.dT a)))\/(T = "set" /\∃S n,H p=some (.set S n))
 |_=>False
theorem Us (I:Inv X pins σ H s) (r:RelV x v) (ty:Ut X.K T x H):
  s.TypeIs v T/\∀a,v = .ref a->∃ob,s.heap.get? a=some ob/\ob.dict=none:=by
 cases x with
 |str z=>
  obtain⟨t,rfl⟩:=r;cases((ty));exact⟨rfl,fun _ e=>nomatch e⟩
 |int i=>
  obtain⟨t,rfl⟩:=r;cases((ty));exact⟨rfl,fun _ e=>nomatch e⟩
 |ref p=>
  cases r;rcases ty with⟨rfl,xs,u⟩|⟨rfl,o,hk,hc,hd⟩|⟨rfl,hk⟩|⟨rfl,S,n,hk⟩
  ·
   obtain⟨m,_,pl,_⟩:=I.list u;refine⟨pl.isList.typeIs,fun a e=>?_⟩;cases e;obtain⟨o,n,e,c,hd,_⟩:=pl;exact⟨o,e,hd⟩
  ·
   refine⟨⟨o,I.l9 p o hk,hc⟩,fun a e=>?_⟩;cases e;exact⟨o,I.l9 _ o hk,hd⟩
  ·have z: ∃o,s.heap.get? p=some o/\o.ExactDict:=by
    rcases hk with⟨j,hk⟩|⟨j,hk⟩
    ·
     obtain⟨_,_,_,_,o,_,_,e,ex,_⟩:=I.hok p _ hk;exact⟨o,e,ex⟩
    ·
     obtain⟨_,_,_,_,o,_,_,e,ex,_⟩:=I.hok p _ hk;exact⟨o,e,ex⟩
   obtain⟨o,e,ex⟩:=z;refine⟨⟨o,e,ex.1⟩,fun a d=>?_⟩;cases d;exact⟨o,e,ex.2.1⟩
  ·
   obtain⟨o,_,_,_,e,ex,_⟩:=I.hok p _ hk;refine⟨⟨o,e,ex.1⟩,fun a d=>?_⟩;cases d;exact⟨o,e,ex.2.1⟩
 |_=>trivial
def XZ (K:W.Frag) (T:String) (r:V->List V->Hp->VK->Prop) (to:TE) (t:TA):TE:=fun σ H Q=>to σ H fun x a=>Ut K T x a/\t σ a fun xs d=>r x xs d Q
theorem FU {X:Cx} {o e:Expr} {i:List Expr} {to:TE} {t:TA} {name:Str} {apos a:Pos} {T id:String} {r:V->List V->Hp->VK->Prop} (pa:PlainAttrs T) (slot:Slot T name id) (n:typeOf (.builtin id)=pure (.type "method_descriptor")) (hm:XN X id r) (ho:PE X o to) (ha:PA X (e::i) t)
  (d:attributeBase o name X.env (eval o X.env)=eval o X.env:=by rfl)
  (
   hfew:((backTo a (starEach (e::i) X.env)).all (fun x=>!x.1)&&(backToKw a (keywordEach [] X.env)).all (fun x=>x.1.isSome)
   &&decide ((e::i).length+([]:List Keyword).length+(if([]:List Keyword).isEmpty then 0 else 1)<30))=true:=by rfl)
  (j:(apos.endLine == a.line)=true:=by rfl) (G:starEach (e::i) X.env=(false,eval e X.env)::starEach i X.env:=by rfl) (m:(backTo a (starEach i X.env)).any (·.1)=false:=by rfl):
  PE X (.Call (.Attribute o name apos) (e::i) [] a) (XZ X.K T r to t):=by
 intro y s σ H Q I h;refine wpAny_Call_method_late d hfew j rfl (thn (ho _ s σ H _ I h) fun v s1 ⟨x,J,z,B,ty,q1⟩=>?_);obtain⟨h1,C⟩:=Us z B ty;refine⟨T,id,pa,slot,n,h1,C,?_⟩;have u:=ha a _ s1 σ J _ z q1;rw[G] at u⊢;refine Calls.callWith_builtin (‹_›) (Calls.evalArgs_plain ?_);exact thn u fun us E ⟨vs,O,F,P,q2⟩=>hm _ E σ O x vs v us Q F B P q2
end
def MtM (X:Cx) (id:String) (r:V->List V->Hp->VK->Prop):Prop:=
 ∀(a:List (Addr×Obj)) (s:Shared) (σ:St) (H:Hp) (x:V) (xs:List V) (v:Value) (us:List Value) (Q:VK),Inv X a σ H s->RelV x v->Vals xs us->r x xs H Q->
  wpAny (model X.prog X.w) X.A (call (.builtin id) (v::us)) (EP X a σ Q) X.xe s
theorem Vals.one: ∀{x:V} {us:List Value},Vals [x] us->∃u,us= [u]/\RelV x u
 |_,_,.cons r .nil=>⟨_,rfl,r⟩
section
theorem Inv.lset {a:List Value} (I:Inv X pins σ H s) (j:H l=some (.lst xs)) (e:s.heap.get? l=some {cls:= .type "list",data:= .seq a.toArray n}) (hf:f a.toArray=its'.toArray) (d:Vals ys its') (i:ys.length<=sizeLine):
  Inv X pins σ (upd H l (.lst ys)) {s with heap:=s.heap.update l (Obj.mapSeq f),toks:=t'}:=by
 have q:=PySem.IsL.update e f;rw[hf] at q;refine I.write (by rw[j];exact trivial) (.inl rfl) (fun v u hb m=>(Heap.get?_update_other _ _ (Ne.symm hb)).trans m) ⟨_,q⟩ ?_;exact⟨i,_,_,d,q⟩
theorem Inv.lnew (I:Inv X pins σ H s) (i:Vals ys a) (d:ys.length<=sizeLine):
  Inv X pins σ (upd H s.heap.objs.size (.lst ys)) {s with heap:=s.heap.push {cls:= .type "list",data:= .seq a.toArray},toks:=t'}:=
 I.laid (fun _ _ q=>Heap.get?_push_of_some _ q) (Nat.le_refl _) ⟨d,a,0,i,Heap.get?_push_size _ rfl⟩
theorem Inv.fresh (I:Inv X pins σ H s):H s.heap.objs.size=none:=I.hok.fresh (Nat.le_refl _)
theorem Inv.Ju (I:Inv X pins σ H s) (d:H l=some (.lst xs)):xs.length<=sizeLine/\∃(a:List Value) (n:Nat),Vals xs a/\xs.length=a.length/\s.heap.get? l=some {cls:= .type "list",data:= .seq a.toArray n}:=by
 obtain⟨z,a,n,r,e⟩:=I.hok l _ d;exact⟨z,a,n,r,r.length,e⟩
theorem Jo (h:n<=sizeLine):Builtin.List.listTooLong n=false:=by
 exact decide_eq_false (by lia)
end
section
def MM:V->List V->Hp->VK->Prop:=fun x vs H Q=> ∃l xs y,x = .ref l/\vs= [y]/\H l=some (.lst xs)/\xs.length<sizeLine/\Q .non (upd H l (.lst (xs++ [y])))
theorem Hr:MtM X "list.append" MM:=by
 intro a s σ H x vs v us Q I m B h;obtain⟨l,xs,y,rfl,rfl,d,E,q⟩:=h;cases m;obtain⟨u,rfl,i⟩:=B.one;obtain⟨z,j,n,r,C,e⟩:=I.Ju d;refine call_meets F.slot_list_append ⟨_,e,rfl⟩ F.entry_list_append (F.args_list_append_2 _ _) (PySem.list_append l _ n u (by simp_all)) ⟨e,?_⟩;refine⟨.non,_,I.lset d e (by simp) (r.append (.cons i .nil)) ?_,rfl,q⟩;rw[List.length_append,List.length_singleton];lia
def MJ:V->List V->Hp->VK->Prop:=fun x vs H Q=> ∃l b xs zs,x = .ref l/\vs= [.ref b]/\H l=some (.lst xs)/\H b=some (.lst zs)/\xs.length+zs.length<=sizeLine/\Q .non (upd H l (.lst (xs++zs)))
theorem BV:MtM X "list.extend" MJ:=by
 intro j s σ H x vs v us Q I J P h;obtain⟨l,b,xs,zs,rfl,rfl,m,B,Y,q⟩:=h;cases J;obtain⟨u,rfl,y⟩:=P.one;cases y;obtain⟨z,d,n,r,U,e⟩:=I.Ju m;obtain⟨W,a,C,G,E,O⟩:=I.Ju B;have hsz:d.toArray.size+a.toArray.size<=sizeLine:=by simp_all
 have i: ¬(!d.toArray.isEmpty&&Builtin.List.listTooLong (d.toArray.size+a.toArray.size))=true:=by
  rw[Jo hsz,Bool.and_false];exact Bool.false_ne_true
 refine call_meets F.slot_list_extend ⟨_,e,rfl⟩ F.entry_list_extend (F.args_list_extend_2 _ _)
  (AutoSeq1.list_extend_list_list_0 l _ n b _ C i (by simp_all) (by lia)) ⟨e,O,?_⟩
 refine⟨.non,_,I.lset m e (by simp) (r.append G) ?_,rfl,q⟩;rw[List.length_append];lia
def UH:R2:=fun x y H Q=> ∃l b xs zs,x = .ref l/\y = .ref b/\H l=some (.lst xs)/\H b=some (.lst zs)/\xs.length+zs.length<=sizeLine/\∀p,H p=none->Q (.ref p) (upd H p (.lst (xs++zs)))
theorem U8:jS X (binaryOp .Add) UH:=by
 intro i s σ H x y v u Q I F C h;obtain⟨l,b,xs,zs,rfl,rfl,B,j,Y,q⟩:=h;cases F;cases C;obtain⟨z,d,n,r,O,e⟩:=I.Ju B;obtain⟨U,a,W,E,m,G⟩:=I.Ju j;refine PySem.P.add_list e G ?_ (by simp_all);have J:d.toArray++a.toArray=(d++a).toArray:=by simp
 rw[J];exact⟨.ref _,_,I.lnew (r.append E) (by simp_all),rfl,q _ I.fresh⟩
end
end L2
namespace Att
open PySem PySem.W PySem.Calls PyProof.Rows
theorem yx: ∀(ns:List Int) (vs:List Value),WellAll P h vs (ns.map WData.int)->IntsAre vs ns:=by
 intro ns
 induction ns with
 |nil=>
  intro vs w;cases w;exact .nil
 |cons n ns d=>
  intro vs w;cases w with
  |cons a b=>
   cases a;exact .cons _ _ (d _ b)
theorem GQ {l:OpenLaw} (hn:l.most=some n) (hpre:l.row.toRowW.claim.pre args=true) (m:WellAll P h vals args):
  ∃a vs ns,vals= [Value.ref a]/\args= [WData.list (ns.map WData.int)]/\h.get? a=some {cls:= .type "list",data:= .seq vs.toArray}/\IntsAre vs ns/\ns.length<=n:=by
 have s:=(pre_splitW hpre).1;have hc:=(pre_splitW hpre).2;obtain⟨d,r,rfl,h1,u⟩:=hasAllW_cons s;obtain rfl:=hasAllW_nil u;obtain⟨xs,rfl,x⟩:=hasW_list h1;obtain⟨ns,rfl⟩:=items_int x;have hlen:ns.length<=n:=by
  have j:=by
   have j:=(holds_andW hc).1;rw[hn] at j;exact j
  have z:=condW_of j (w_not (w_lt w_lit (w_len_list (w_arg rfl))))
  first
   |simp_all
   |simp_all
 cases m with
 |cons y v=>
  cases v;cases y with
  |list ho i=>exact⟨_,_,ns,rfl,rfl,ho,yx ns _ i,hlen⟩
theorem He (l:OpenLaw) (args:List WData):l.row.toRowW.claim.post args (.bool true) args=true:=
 postW_of
  ((rfl))
  ((w_eq_bool (w_res rfl) w_lit)) rfl
theorem Eh {l:OpenLaw} {q:Program} (hn:l.most=some n) (v:d.params.defaults= []) (call: ∀(w:World) (s₀ i:Shared) (mg x:Str->Option Value) (fa:Addr) (o:Obj) (pm cd doc:Value) (a:Addr) (vs:List Value) (ns:List Int),
   Ground q loose [] XP w s₀ mg x i.heap->YP w i.heap->
   i.heap.get? fa=some o->o.data = .func (docDef d.name d.params d.body d.scope pm cd doc)->i.heap.CodeRec cd d.name->mg d.name=some (.ref fa)->
   i.heap.get? a=some {cls:= .type "list",data:= .seq vs.toArray}->IntsAre vs ns->ns.length<=n->i.gens = #[]->
   codeAny (model l.prog w) callerA (.call (.ref fa) ⟨[.ref a],[]⟩) (fun r m=>r = .ok (.ret (.bool true))/\OldK i.heap m.heap/\m.os=i.os/\AllBare m.gens) i):
  WalkO q loose XP YP l.row.toRowW d [] (fun f vs=>PySem.call f vs):=by
 intro w s₀ i mg x G Y fa o pm cd doc F kV ho hd s hD y hg args vals as hpre z E u C;obtain rfl:F = .none:=Dflts.none hD v;obtain rfl:kV = .none:=Dflts.noKw hD;obtain⟨a,vs,ns,rfl,rfl,j,hints,hlen⟩:=GQ hn hpre u;refine enter_call (codeAny_mono (call w _ _ mg x fa o pm cd _ a vs ns G Y ho (fd_plain hd) s y j hints hlen hg) fun r m J=>?_);obtain⟨rfl,B,H,I⟩:=J;exact⟨.inl ⟨_,_,[],rfl,fun _=>rfl,.bool _,He l _,fun _=>⟨List.Pairwise.nil,fun _ hm=>(nomatch hm)⟩⟩,B,H,I⟩
end Att
namespace L2
open PySem PySem.Spec PyProof.Rows
theorem BE: ∀{vs:List Value} {ns:List Int},IntsAre vs ns->Vals (ns.map V.int) vs
 |_,_,.nil=> .nil
 |_,_,.cons n t h=> .cons ⟨t,rfl⟩ (BE h)
def LZ (H:Hp):Prop:= ∀b,H b=none\/∃o xs,H b=some (.frz o (.lst xs))
theorem Jz {K:W.Frag} (Z:K.In s₁.heap) (C:s₁.heap.Ns mainGlobals mg) (hb:s₁.heap.Ns builtinsNs mb) (X: ∀x:Str,x≠ "__name__" ->mb x=bootBuiltins x) (I:s₁.heap.NoLimit) (hg:s₁.gens = #[]) (ha:s₁.heap.get? a=some {cls:= .type "list",data:= .seq vs.toArray}) (hi:IntsAre vs ns) (hl:ns.length<=sizeLine) (hr:cG k callerA) (F: ∀base:Heap,K.In base->base.Ns mainGlobals mg->uN P w K mg base CX k fa fd [x] sp) (B: ∀(s:Shared) (u:Value),BindsTo s fd ⟨[u],[]⟩ [(x,u)]) (Y: ∀H:Hp,LZ H->bO K H a (ns.map V.int)->sp [.ref a] H (fun v _=>v = .bl true) fun _ _ _=>False) (U: ∀H e j,CX [] H s₁ (fun _ _ _=>False) e j->False):
  codeAny (model P w) callerA (.call (.ref fa) ⟨[.ref a],[]⟩) (fun r j=>r = .ok (.ret (.bool true))/\OldK s₁.heap j.heap/\j.os=s₁.os/\AllBare j.gens) s₁:=by
 have rv:=BE hi;have lenV:=hi.length

 have core: ∀H,LZ H->bO K H a (ns.map V.int)->yS P w H s₁.heap->(∀b,H b≠none->b=a)->(H a≠none->K.lookup a=none)->
   codeAny (model P w) callerA (.call (.ref fa) ⟨[.ref a],[]⟩) (fun r j=>r = .ok (.ret (.bool true))/\OldK s₁.heap j.heap/\j.os=s₁.os/\AllBare j.gens) s₁:=by
  intro H hO hS hok hA hK;have i: ∀{b:Addr} {o:Obj},s₁.heap.get? b=some o->H b=none->(HD _ H).get? b=some o:=fun e n=>Lr e n;have Q: ∀{b:Addr} {o:Obj} {O:Array _} {J:Nat},s₁.heap.get? b=some o->o.data = .dict O J->H b=none:=fun{b o O J} e d=>by
   grind
  have y: ∀{b:Addr} {m:Str->Option _},s₁.heap.Ns b m->(HD _ H).Ns b m:=fun{b m} ⟨o,O,J,e,d,r⟩=>⟨o,O,J,i e (Q e d),d,r⟩;have G:=fun b o e=>i (Z b o e) (by
   grind)
  have hM:Mod K mg _:=⟨G,y C,⟨mb,y hb,X⟩,let ⟨mc,h1,h2⟩:=I;⟨mc,y h1,h2⟩⟩;have e0:Fq P w K mg _ callerA [] _ H:=⟨rfl,hM,fun b o e=>Nh e,Nat.le_of_eq (HC _ _),trivial,fun b hb=>absurd (show b∈([]) from hb) (by simp),hok,.of_eq hg⟩;refine codeAny_mono ((F _ G (y C)).run _ [] _ H _ [.ref a] [.ref a] _ _ hr e0 (B _ _) (.cons rfl .nil) (Y H hO hS)) fun r j h=>?_;cases r with
  |error e=>exact(U H e j h).elim
  |ok fl=>
   cases fl with
   |next=>trivial
   |brk=>trivial
   |cont=>trivial
   |ret u=>
    obtain⟨v,H',os,bare,un,E,r',q⟩:=h;have q':=q;subst q';obtain rfl:u=Value.bool _:=r';refine⟨rfl,OldK.of_keep fun b o e=>?_,os,bare⟩;cases q:H b with
    |none=>exact un.keep b o e q (by intro z;exact absurd (show b∈([]) from z) (by simp)) (by simp)
    |some u=>
     rcases hO b with z|⟨ob,xs,z⟩
     ·simp_all
     ·
      have z2:=un.frzs b ob _ z;obtain⟨e1,_⟩:=hok b _ z;obtain⟨e2,_⟩:=E b _ z2;rw[e] at e1;cases e1;exact e2
 cases hk:K.lookup a with
 |some o=>

  have e:=Z a o hk;rw[ha] at e;cases e;refine core _ (fun _=> .inl rfl) (.inr ⟨_,_,_,hk,rfl,rfl,rfl,by simp_all,by trivial⟩) (fun b u z=>by trivial) (fun b z=>absurd rfl z) fun z=>absurd rfl z
 |none=>
  refine core (fun b=>if b=a then some _ else none) (fun b=>?_) (.inl (.inr ⟨{cls:= .type "list",data:= .seq vs.toArray},if_pos rfl⟩)) (fun b u z=>?_) (fun b z=>?_) fun _=>hk
  ·grind
  ·
   by_cases hb:b=a
   ·
    have z':=(if_pos hb).symm.trans z;cases z';subst hb;exact⟨ha,by simp_all,vs,_,rv,ha⟩
   ·simp_all
  ·simp_all
theorem Mc {l:W.OpenLaw} {q:Program} {K:Params->W.Frag} {CX:World->Em} {sp:World->Sp} (hn:l.most=some n) (E:n<=sizeLine) (y:d.params.defaults= []) (hr:cG k callerA) (P: ∀(w:World) (h:Heap),YP w h->(K w.params).In h) (F: ∀(w:World) (mg:Str->Option Value) (fa:Addr) (h:Heap),(K w.params).In h->h.Ns mainGlobals mg->mg d.name=some (.ref fa)->
   ∃m:FuncData,(∀(s:Shared) (u:Value),BindsTo s m ⟨[u],[]⟩ [(x,u)])/\
    ∀base:Heap,(K w.params).In base->base.Ns mainGlobals mg->uN l.prog w (K w.params) mg base (CX w) k fa m [x] (sp w)) (B: ∀(w:World) (H:Hp) (a:Addr) (ns:List Int),ns.length<=n->LZ H->bO (K w.params) H a (ns.map V.int)->sp w [.ref a] H (fun v _=>v = .bl true) fun _ _ _=>False) (j: ∀(w:World) (H:Hp) (s:Shared) (e:Value) (z:Shared),CX w [] H s (fun _ _ _=>False) e z->False):
  W.WalkO q loose XP YP l.row.toRowW d [] (fun f vs=>PySem.call f vs):=by
 refine Att.Eh hn y fun w s₀ J mg Z fa o pm cd doc a vs ns G Y ho hd O C i hints hlen hg=>?_;have I:=P w _ Y;obtain⟨m,hb,Q⟩:=F w mg fa _ I G.T.g C;exact Jz I G.T.g G.T.b G.T.builtins G.T.nolimit hg i hints (Nat.le_trans hlen E) hr Q hb (fun H X U=>B w H a ns hlen X U) fun H e z=>j w H _ e z
theorem HZ {l:W.OpenLaw} {q:Program} {K:Params->W.Frag} {sp:W.Frag->Sp} (hn:l.most=some n) (z:n<=sizeLine) (j:d.params.defaults= []) (hr:cG k callerA) (E: ∀(w:World) (h:Heap),YP w h->(K w.params).In h) (F: ∀(w:World) (mg:Str->Option Value) (fa:Addr) (h:Heap),(K w.params).In h->h.Ns mainGlobals mg->mg d.name=some (.ref fa)->
   ∃B:FuncData,(∀(s:Shared) (u:Value),BindsTo s B ⟨[u],[]⟩ [(x,u)])/\
    ∀base:Heap,(K w.params).In base->base.Ns mainGlobals mg->uN l.prog w (K w.params) mg base CX k fa B [x] (sp (K w.params))) (y: ∀(K:W.Frag) (H:Hp) (a:Addr) (ns:List Int),ns.length<=n->LZ H->bO K H a (ns.map V.int)->sp K [.ref a] H (fun v _=>v = .bl true) fun _ _ _=>False) (i: ∀(H:Hp) (s:Shared) (e:Value) (m:Shared),CX [] H s (fun _ _ _=>False) e m->False):
  W.WalkO q loose XP YP l.row.toRowW d [] (fun f vs=>PySem.call f vs):=
 Mc hn z j hr E F (fun w H a ns h1 C G=>y _ H a ns h1 C G) fun _ H s e m=>i H s e m
end L2
namespace L2
open PySem PySem.Spec PyProof.Rows
noncomputable def inClass (s:Stmt) (j:Nat):Stmt:=match s with
 | .ClassDef _ _ _ body _ _ _ _ _ _ _=>body.getD j (.Pass ⟨0,0,0,0⟩)
 |_=> .Pass ⟨0,0,0,0⟩
noncomputable def jA (s:Stmt):Arguments:=match s with
 | .FunctionDef _ a _ _ _ _ _ _ _ _=>a
 |_=>{posonlyargs:=[],args:=[],vararg:=none,kwonlyargs:=[],kw_defaults:=[],kwarg:=none,defaults:=[]}
noncomputable def fT (s:Stmt):List Stmt:=match s with
 | .FunctionDef _ _ b _ _ _ _ _ _ _=>b
 |_=>[]
noncomputable def bp (s:Stmt):Scope:=match s with
 | .FunctionDef _ _ _ _ _ _ sc _ _ _=>sc
 |_=>{kind:= .function,names:=[],isGenerator:=false,isCoroutine:=false}
abbrev XO:Em:=fun _ _ _ _ _ _=>False
abbrev E0:XK:=fun _ _ _=>False
theorem Yn:Passes XO X E0:=fun _ _ _ _ _ _ _ h=>h.elim
structure Fun (K:W.Frag) (x qual:Str) (st:Stmt) (f:Addr) (fd:FuncData):Prop where
 ex: ∃(oc:Value) (od:Option Addr) (kV doc pm:Value) (an:Option Addr) (cdv ct:Value) (osl:Array (Option Value)),
  fd=W.fnOf x qual (jA st) (fT st) (bp st) .none kV doc pm an cdv ct/\K.lookup f=some ⟨oc,od,.func fd,osl⟩/\W.codeIn K cdv qual=true
 kp:W.keepIn K (.ref f)=true
section
variable {K:W.Frag}
theorem Fun.binds {st:Stmt} (F:Fun K x qual st f fd) (h: ∀(kV doc pm:Value) (an:Option Addr) (a ct:Value) (us:List Value),us.length=ps.length->bindArgs (W.fnOf x qual (jA st) (fT st) (bp st) .none kV doc pm an a ct) ⟨us,[]⟩=pure (ps.zip us)):Binds K fd ps []:=by
 obtain⟨j,m,kV,doc,pm,an,a,ct,d,rfl,lk,i⟩:=F.ex;exact .all (h kV _ pm an _ ct)
theorem Ly {st:Stmt} {kV:Value} (l:K.lookup f=some ⟨oc,od,.func (W.fnOf x qual (jA st) (fT st) (bp st) .none kV doc pm an cdv ct),osl⟩) (c:W.codeIn K cdv qual=true) (k:W.keepIn K (.ref f)=true):Fun K x qual st f (W.fnOf x qual (jA st) (fT st) (bp st) .none kV doc pm an cdv ct):=⟨⟨oc,od,kV,doc,pm,an,cdv,ct,osl,rfl,l,c⟩,k⟩
end
section
theorem pv (i:Nat) (d:X.N[i]?=some x:=by rfl) (j:Vis X.env.scope x:=by first|exact Or.inl rfl|exact Or.inr (Or.inl rfl)|exact Or.inr (Or.inr rfl)) (hd:(x == ("__debug__" : Str))=false:=by decide) (a:(x == ("__classdict__" : Str))=false:=by decide):PE X (.Name x pos) (Ib i):=UU d j hd a
end
def a7 (H H':Hp):Prop:= ∀b o,H b=some o->H' b=some o
theorem a7.refl (H:Hp):a7 H H:=fun _ _ h=>h
theorem a7.trans (a:a7 H H1) (b:a7 H1 H2):a7 H H2:=fun c o h=>b c o (a c o h)
section
theorem Inv.big (I:Inv X pins σ H s):sysModules<s.heap.objs.size:=by
 have h:=(I.mod.glob.keeps I.bk).lt;exact Nat.lt_trans (by decide) h
end
theorem LI (h:Heap) (hb:sysModules<h.objs.size):jD P w H (h.push {cls:= .type "dict",data:= .dict #[]}) h.objs.size (.dK []):=
 ⟨Nat.zero_le _,beq_eq_false_iff_ne.mpr (Ne.symm (Nat.ne_of_lt hb)),[],.nil,Heap.DictOf.new h⟩
def Il:TE:=fun _ H Q=> ∀p,H p=none->Q (.ref p) (upd H p (.dK []))
section
theorem vh:PE X (.Dict [] [] pos) Il:=fun a s σ H Q I h=>
 wpAny_Dict_empty ⟨.ref _,_,I.laid (fun _ _ q=>Heap.get?_push_of_some _ q) (Nat.le_refl _) (LI _ I.big),rfl,h _ (I.hok.fresh (Nat.le_refl _))⟩
end
def FnAt (P:Program) (w:World) (K:W.Frag) (mg:Str->Option Value) (base:Heap) (CX:Em) (x:Str) (k:Nat) (i:List Str) (sp:Sp):Prop:=
 ∃f d,uN P w K mg base CX k f d i sp/\mg x=some (.ref f)/\W.keepIn K (.ref f)=true/\Binds K d i []/\∃j m a,K.lookup f=some ⟨j,m,.func d,a⟩
def bA (K:W.Frag) (mg:Str->Option Value) (x:Str) (st:Stmt):Prop:= ∃f a,Fun K x x st f a/\mg x=some (.ref f)
class Quiet (CX:Em):Prop where
 pass: ∀(X:Cx),Passes CX X E0
noncomputable instance:Quiet XO:=⟨fun _=>Yn⟩
theorem LJ {K:W.Frag} {st:Stmt} {kV:Value} (X:K.In h) (G:h.Ns mainGlobals mg) (a:W.nsIn K mainGlobals x=some (some (.ref f))) (l:K.lookup f=some ⟨oc,od,.func (W.fnOf x x (jA st) (fT st) (bp st) .none kV doc pm an cdv ct),osl⟩) (c:W.codeIn K cdv x=true) (k:W.keepIn K (.ref f)=true):bA K mg x st:=
 ⟨f,_,Ly l c k,W.mg_of X G a⟩
section
theorem bA.fn {K:W.Frag} {st:Stmt} (F:bA K mg x st) (S:ma N ps (bp st)) (hb: ∀(kV doc pm:Value) (an:Option Addr) (a ct:Value) (us:List Value),us.length=ps.length->bindArgs (W.fnOf x x (jA st) (fT st) (bp st) .none kV doc pm an a ct) ⟨us,[]⟩=pure (ps.zip us)) (len: ∀vs H Q E,sp vs H Q E->vs.length=ps.length) (d: ∀(f:Addr) (a:Value) (A:Around) (outer:List Env) (s:Shared) (H:Hp) (vs:List V) (Q:VK) (E:XK),cG k (A.deeper (envOfC x (bp st) s.heap.objs.size f a))->sp vs H Q E->
   ∃t,ya (yP CX P w K mg base N x (bp st) f a A outer s H E).nox (fT st) t/\t {nx:=fun _ H'=>Q .non H',rt:=Q} (start N vs) H):FnAt P w K mg base CX x (k+1) ps sp:=by
 obtain⟨f,v,F,hm⟩:=F;have bd:=F.binds hb;have kp:=F.kp;obtain⟨n,u,kV,doc,pm,an,a,ct,m,rfl,lk,i⟩:=F.ex;refine⟨f,_,Gq lk i S len fun A outer s H vs Q E hr j=>?_,hm,kp,bd,n,u,m,lk⟩;obtain⟨t,h,q⟩:=d f _ A _ s H vs Q E hr j;exact⟨t,h.nox,q⟩
end
section
theorem Ym [Quiet CX] (G:FnAt X.prog X.w X.K X.mg X.base CX x k ps sp) (hr:cG n X.A) (hk:k<=n) (hg:Gl X x) (ha:PA X (e::es) t) (d:(x == ("__debug__" : Str))=false:=by decide) (he:starEach (e::es) X.env=(false,eval e X.env)::starEach es X.env:=by rfl) (a:(backTo pos (starEach es X.env)).any (·.1)=false:=by rfl):
  PE X (.Call (.Name x p) (e::es) [] pos) (BI sp [] E0 t):=by
 obtain⟨f,i,F,hm,kp,b,_⟩:=G;exact FT F (hr.mono hk) hg hm kp b .nil (Quiet.pass X) ha d he a
def ko (mg:Str->Option Value) (x:Str) (v:V):Prop:= ∃u,mg x=some u/\RelV v u
theorem b_ (hg:Gl X x) (h:ko X.mg x v) (hd:(x == ("__debug__" : Str))=false:=by decide):PE X (.Name x pos) (tC v):=by
 obtain⟨u,hm,r⟩:=h;exact FR hg hm r hd
end
section
theorem MG:HW g (.int i) (.int j) H Q=Q (g i j) H:=rfl
theorem UG:rI C g (.int i) (.int j) H Q=(C i j/\Q (g i j) H):=rfl
theorem UC:rU f (.int i) H Q=Q (f i) H:=rfl
theorem ahi {P:Bool->Prop}:(∃k,V.bl b = .bl k/\P k)=P b:=by
 simp_all
theorem ML:Yh (.int i) (.int j) H Q=Q (.bl (decide (i=j))) H:=by
 have e:decide (V.int i=V.int j)=decide (i=j):=by
  simp_all
 unfold Yh;rw[e];apply propext;exact⟨fun h=>h.2,fun h=>⟨rfl,h⟩⟩
theorem Mu:X_ (.int i) (.int j) H Q=Q (.bl (!decide (i=j))) H:=by
 have e:decide (V.int i=V.int j)=decide (i=j):=by
  simp_all
 unfold X_;rw[e];apply propext;exact⟨fun h=>h.2,fun h=>⟨rfl,h⟩⟩
theorem MK:Yh (.str a) (.str b) H Q=Q (.bl (decide (a=b))) H:=by
 have e:decide (V.str a=V.str b)=decide (a=b):=by
  simp_all
 unfold Yh;rw[e];apply propext;exact⟨fun h=>h.2,fun h=>⟨rfl,h⟩⟩
theorem Mt:X_ (.str a) (.str b) H Q=Q (.bl (!decide (a=b))) H:=by
 have e:decide (V.str a=V.str b)=decide (a=b):=by
  simp_all
 unfold X_;rw[e];apply propext;exact⟨fun h=>h.2,fun h=>⟨rfl,h⟩⟩
end
theorem jS.imp (h:jS X f r) (i: ∀x y H Q,r' x y H Q->r x y H Q):jS X f r':=
 fun a s σ H x y v u Q I j d q=>h _ s σ H x y v u Q I j d (i _ _ _ _ q)
theorem bP.imp (h:bP X f r) (i: ∀xs H Q,r' xs H Q->r xs H Q):bP X f r':=
 fun a s σ H xs us Q I rs q=>h _ s σ H xs us Q I rs (i _ _ _ q)
def tL (K:W.Frag):R2:=fun x y H Q=>match x,y with
 | .int i,.int j=>Q (.int (i+j)) H
 | .str a,.str b=>a.length+b.length<=sizeLine/\Q (.str (a++b)) H
 | .ref l,.ref b=>UH (.ref l) (.ref b) H Q\/IZ K (.ref l) (.ref b) H Q
 |_,_=>False
section
theorem Nc:jS X (binaryOp .Add) (tL X.K):=by
 refine jS.imp (U9.or (EN.or (U8.or Nb))) fun x y H Q h=>?_;unfold tL at h;split at h
 ·exact .inl h
 ·simp_all
 ·exact .inr (.inr h)
 ·trivial
def NW (i j:Int):Prop:=(0<=j/\j<=1000000)/\-(2 ^ 512)<i/\i<2 ^ 512
theorem NW.bits (h:NW i j):(Builtin.Int.intBits i:Int)+j<=2 ^ 27:=by
 have hb:Builtin.Int.intBits i<=512:=by
  unfold Builtin.Int.intBits;split
  ·lia
  ·
   rename_i a;have d:i≠0:=fun q=>a (by rw[q];rfl);have:i.natAbs.log2<512:=(Nat.log2_lt (by lia)).mpr (by have:=h.2;lia);lia
 have:=h.1.2;lia
theorem M9:jS X (binaryOp .LShift) (rI NW fun i j=> .int (i*2 ^ j.toNat)):=Yq fun _ _ _ _ _ _ _ hc q=>lshift_int hc.1.1 hc.bits q
end
def xQ (K:W.Frag):List V->Hp->VK->Prop:=fun xs H Q=>match xs with
 | [.str z]=>z.length<=sizeLine/\Q (.int z.length) H
 | [.ref p]=> ∃a,(bO K H p a\/n_ K H p a)/\Q (.int a.length) H
 |_=>False
section
theorem HS:bP X (.builtin "len") (xQ X.K):=by
 refine bP.imp (Dr.or Dq) fun xs H Q h=>?_;unfold xQ at h;split at h
 ·exact .inr ⟨_,rfl,h.1,h.2⟩
 ·simp_all
 ·simp_all
def II:List V->Hp->VK->Prop:=fun xs H Q=>match xs with
 | [.int i,.int j]=>Q (.int (if j<i then j else i)) H
 |_=>False
def IK:List V->Hp->VK->Prop:=fun xs H Q=>match xs with
 | [.int i,.int j]=>Q (.int (if i<j then j else i)) H
 |_=>False
theorem HN (hc:X.calm=true):bP X (.builtin "min") II:=by
 refine bP.imp (HP hc) fun xs H Q h=>?_;unfold II at h;split at h
 ·exact⟨_,_,rfl,h⟩
 ·trivial
theorem Cb (hc:X.calm=true):bP X (.builtin "max") IK:=by
 refine bP.imp (HQ hc) fun xs H Q h=>?_;unfold IK at h;split at h
 ·exact⟨_,_,rfl,h⟩
 ·trivial
noncomputable def agh:V->String->Option Bool
 | .int _,"int" =>some true
 | .int _,"bool" =>some false
 | .int _,"str" =>some false
 | .bl _,"int" =>some true
 | .bl _,"bool" =>some true
 | .str _,"str" =>some true
 | .str _,"int" =>some false
 |_,_=>none
def qb (K:W.Frag):List V->Hp->VK->Prop:=fun xs H Q=>match xs with
 | [x,.ty T]=>(match agh x T with
  |some b=>Q (.bl b) H
  |none=> ∃t b,tI K H x t/\W.kitOne K t (.type T)=some b/\Q (.bl b) H)
 |_=>False
theorem Vg (K:W.Frag):W.kitOne K (.type "int") (.type "int")=some true:=rfl
theorem Vh (K:W.Frag):W.kitOne K (.type "int") (.type "bool")=some false:=rfl
theorem kit_is (K:W.Frag):W.kitOne K (.type "int") (.type "str")=some false:=rfl
theorem Vi (K:W.Frag):W.kitOne K (.type "bool") (.type "int")=some true:=rfl
theorem Vj (K:W.Frag):W.kitOne K (.type "bool") (.type "bool")=some true:=rfl
theorem Ve (K:W.Frag):W.kitOne K (.type "str") (.type "str")=some true:=rfl
theorem Vf (K:W.Frag):W.kitOne K (.type "str") (.type "int")=some false:=rfl
theorem alE (K:W.Frag):W.kitOne K (.type "list") (.type "list")=some true:=rfl
theorem alD (K:W.Frag):W.kitOne K (.type "tuple") (.type "tuple")=some true:=rfl
theorem LS:bP X (.builtin "isinstance") (qb X.K):=by
 intro a s σ H xs us Q I rs q;unfold qb at q;split at q
 ·
  rename_i x T;obtain⟨u,c,rfl,d,rc⟩:=vals2 rs;obtain rfl:c=Value.type T:=rc;have key: ∀{t b},tI _ H x t->W.kitOne _ t _=some b->Q _ H->wpAny _ X.A (call _ [u,.type T]) (EP X _ σ Q) X.xe s:=fun{t b} ty e h=>
   Hy I d ty e fun tk=>⟨.bl b,H,I.tok tk,rfl,h⟩
  split at q
  ·
   rename_i b e;have h:=q;unfold agh at e;split at e<;>cases e
   ·exact key (.int _) (Vg _) h
   ·exact key (.int _) (Vh _) h
   ·exact key (.int _) (kit_is _) h
   ·exact key (.bl _) (Vi _) h
   ·exact key (.bl _) (Vj _) h
   ·exact key (.str _) (Ve _) h
   ·exact key (.str _) (Vf _) h
  ·
   obtain⟨t,b,ty,e,h⟩:=q;exact key ty e h
 ·trivial
theorem mS (hg:Gl X x) (hm:X.mg x=none) (a:bootBuiltins x=some (.type T)) (hn:x≠ "__name__" :=by decide) (hd:(x == ("__debug__" : Str))=false:=by decide):PE X (.Name x pos) (tC (.ty T)):=
 M8 hg hm a rfl hn hd
end
theorem cF:bootBuiltins "len" = some (.builtin "len"):=by decide+kernel
theorem Xx:bootBuiltins "min" = some (.builtin "min"):=by decide+kernel
theorem Az:bootBuiltins "max" = some (.builtin "max"):=by decide+kernel
theorem LV:bootBuiltins "sum" = some (.builtin "sum"):=by decide+kernel
theorem uL:bootBuiltins "all" = some (.builtin "all"):=by decide+kernel
theorem bg:bootBuiltins "isinstance" = some (.builtin "isinstance"):=by decide+kernel
theorem AA:bootBuiltins "int" = some (.type "int"):=by decide+kernel
theorem y6:bootBuiltins "bool" = some (.type "bool"):=by decide+kernel
theorem mQ:bootBuiltins "str" = some (.type "str"):=by decide+kernel
theorem Ds:bootBuiltins "list" = some (.type "list"):=by decide+kernel
theorem Ay:bootBuiltins "tuple" = some (.type "tuple"):=by decide+kernel
section
variable {K:W.Frag}
theorem Hc:tL K (.int i) (.int j) H Q=Q (.int (i+j)) H:=rfl
theorem Hb:tL K (.str i) (.str j) H Q=(i.length+j.length<=sizeLine/\Q (.str (i++j)) H):=rfl
theorem kb:tL K (.ref a) (.ref b) H Q=(UH (.ref a) (.ref b) H Q\/IZ K (.ref a) (.ref b) H Q):=rfl
theorem G5:xQ K [.str z] H Q=(z.length<=sizeLine/\Q (.int z.length) H):=rfl
theorem G6:xQ K [.ref p] H Q=(∃a,(bO K H p a\/n_ K H p a)/\Q (.int a.length) H):=rfl
theorem Mz:qb K [.int i,.ty "int"] H Q=Q (.bl true) H:=rfl
theorem MB:qb K [.int i,.ty "bool"] H Q=Q (.bl false) H:=rfl
theorem My:qb K [.int i,.ty "str"] H Q=Q (.bl false) H:=rfl
theorem Mw:qb K [.str i,.ty "str"] H Q=Q (.bl true) H:=rfl
theorem Mx:qb K [.str i,.ty "int"] H Q=Q (.bl false) H:=rfl
theorem GY:II [.int i,.int j] H Q=Q (.int (if j<i then j else i)) H:=rfl
theorem G1:IK [.int i,.int j] H Q=Q (.int (if i<j then j else i)) H:=rfl
end
theorem Xv {CX:Em} {P:Program} {w:World} {K:W.Frag} {mg:Str->Option Value} {base:Heap} {N:List Str} {qual:Str} {scope:Scope} {f:Addr} {cd:Value} {A:Around} {outer:List Env} {s:Shared} {H:Hp} {E:XK}:
  (yP CX P w K mg base N qual scope f cd A outer s H E).K=K:=rfl
theorem law_fin {K:W.Frag} {st:Stmt} (i:mg nm=some (.ref fa)) (D:bA K mg nm st) (hb: ∀(kV doc pm:Value) (an:Option Addr) (a ct:Value) (us:List Value),us.length=([x]:List Str).length->bindArgs (W.fnOf nm nm (jA st) (fT st) (bp st) .none kV doc pm an a ct) ⟨us,[]⟩=pure (([x]:List Str).zip us)) (ok: ∀base:Heap,FnAt P w K mg base CX nm k [x] sp):
  ∃m:FuncData,(∀(s:Shared) (u:Value),BindsTo s m ⟨[u],[]⟩ [(x,u)])/\∀base:Heap,K.In base->base.Ns mainGlobals mg->uN P w K mg base CX k fa m [x] sp:=by
 obtain⟨f,m,F,hm⟩:=D;rw[i] at hm;cases hm;obtain⟨E,G,kV,doc,pm,an,a,ct,C,e,lk,v⟩:=F.ex;refine⟨m,fun s u=>?_,fun base _ _=>?_⟩
 ·
  rw[e];exact .of_eq (hb kV doc pm an a ct [u] rfl)
 ·
  obtain⟨H,B,h,d,_,_,y,z,n,j⟩:=ok base;rw[i] at d;cases d;rw[lk] at j;cases j;exact h
def BK (K:W.Frag):Sp:=fun vs H Q _=>match vs with
 | [.ref a]=> ∃ns:List Int,bO K H a (ns.map V.int)/\ns.length<=63/\LZ H/\∀H',Q (.bl true) H'
 |_=>False
theorem Jy {l:W.OpenLaw} {q:Program} {K:Params->W.Frag} (hn:l.most=some 63) (i:d.params.defaults= []) (hr:cG k callerA) (v: ∀(w:World) (h:Heap),YP w h->(K w.params).In h) (F: ∀(w:World) (mg:Str->Option Value) (fa:Addr) (h:Heap),(K w.params).In h->h.Ns mainGlobals mg->mg d.name=some (.ref fa)->
   ∃j:FuncData,(∀(s:Shared) (u:Value),BindsTo s j ⟨[u],[]⟩ [(x,u)])/\∀base:Heap,(K w.params).In base->base.Ns mainGlobals mg->uN l.prog w (K w.params) mg base XO k fa j [x] (BK (K w.params))):
  W.WalkO q loose XP YP l.row.toRowW d [] (fun f vs=>PySem.call f vs):=
 L2.HZ (n:=63) (CX:=XO) (sp:=BK) hn (by decide) i hr v F (fun K H a ns m B y=>⟨ns,y,m,B,fun _=>rfl⟩) fun _ _ _ _ z=>z
noncomputable def Cx.comp (X:Cx) (scope:Scope) (cl:List (Str×Addr)) (C:Addr) (N:List Str) (s:Shared) (H:Hp) (ex:List Addr):Cx:=
 {prog:=X.prog,w:=X.w,K:=X.K,mg:=X.mg,base:=X.base,A:=X.A,N:=N,s₀:=s,H₀:=H,env:=compEnvC scope cl C X.env,outer:=X.stack,stack:=X.stack,ex:=ex,fn:=fun _=>false,calm:=X.calm,pn:=[],xe:=fun _ _=>False}
theorem Fj (h: ∀y∈scope.names,y.2 = .free->∃c,env.cells.lookup y.1=some c):
  ∃cl,closureFor scope env=pure cl/\(∀y c,cl.lookup y=some c->env.cells.lookup y=some c)/\∀y∈scope.names,y.2 = .free->∃c,cl.lookup y.1=some c:=by
 have key: ∀(l:List _) (acc:List (Str×Addr)),(∀y∈l,y.2 = .free->∃c,env.cells.lookup y.1=some c)->(∀y c,acc.lookup y=some c->env.cells.lookup y=some c)->
   ∃cl,(forIn l acc fun(x:Str×NameKind) (cs:List (Str×Addr))=>if(x.2 == NameKind.free)=true then do let a<-cellOf env x.1;pure (ForInStep.yield ((x.1,a)::cs)) else pure (ForInStep.yield cs))=(pure cl:Sem (List (Str×Addr)))/\
    (∀y c,cl.lookup y=some c->env.cells.lookup y=some c)/\(∀y c,acc.lookup y=some c->∃c,cl.lookup y=some c)/\∀y∈l,y.2 = .free->∃c,cl.lookup y.1=some c:=by
  intro l
  induction l with
  |nil=>intro acc _ ha;exact⟨acc,rfl,ha,fun y c e=>⟨c,e⟩,fun y i=>nomatch i⟩
  |cons x r v=>
   intro acc s ha;obtain⟨n,k⟩:=x;by_cases hk:k = .free
   ·
    subst hk;obtain⟨c,hc⟩:=s (n,.free) List.mem_cons_self rfl;have u: ∀y d,((n,c)::acc).lookup y=some d->env.cells.lookup y=some d:=fun y d e=>by
     simp only[List.lookup_cons] at e;cases q:y == n<;>simp_all
    obtain⟨cl,e,h1,m,j⟩:=v ((n,c)::acc) (fun y i=>s y (List.mem_cons_of_mem _ i)) u;have top: ∃d,cl.lookup n=some d:=m n c (by simp_all);refine⟨cl,?_,h1,fun y d q=>?_,fun y i hf=>?_⟩
    ·
     rw[List.forIn_cons];have B:cellOf env n=pure c:=by unfold cellOf;rw[hc]
     show((if(NameKind.free == NameKind.free)=true then(do let a<-cellOf env n;pure (ForInStep.yield ((n,a)::acc))) else _) >>= _)=_;rw[B];exact e
    ·
     cases z:y == n with
     |true=>simp_all
     |false=>exact m y d (by simp only[List.lookup_cons,z];exact q)
    ·
     rcases List.mem_cons.mp i with rfl|i
     ·trivial
     ·exact j y i hf
   ·
    have hb:(k == NameKind.free)=false:=by simpa using hk
    obtain⟨cl,e,h1,m,j⟩:=v acc (fun y i=>s y (List.mem_cons_of_mem _ i)) ha;refine⟨cl,?_,h1,m,fun y i hf=>?_⟩
    ·
     rw[List.forIn_cons];show((if(k == NameKind.free)=true then _ else pure (ForInStep.yield acc)) >>= _)=_;rw[hb,if_neg Bool.false_ne_true];exact e
    ·
     rcases List.mem_cons.mp i with rfl|i
     ·exact absurd hf hk
     ·exact j y i hf
 obtain⟨cl,e,h1,_,j⟩:=key scope.names [] h (fun y c q=>by simp at q);refine⟨cl,?_,h1,j⟩;unfold closureFor;exact(bind_congr (fun _=>rfl)).trans (by rw[e];rfl)
theorem qa (h:(relabel scope env).names.lookup x=some k):scope.names.lookup x=some k\/(scope.names.lookup x=some .free/\k = .cell):=by
 have key: ∀l:List _,(l.map fun(n,k)=>if(k == NameKind.free&&env.scope.kind == .function&&env.kindOf n == some .cell) then(n,NameKind.cell) else(n,k)).lookup x=some k->l.lookup x=some k\/(l.lookup x=some .free/\k = .cell):=by
  intro l
  induction l with
  |nil=>simp
  |cons y r d=>
   obtain⟨n,j⟩:=y;intro h;rw[List.map_cons] at h;simp only[List.lookup_cons];cases q:x == n with
   |true=>
    by_cases hc:(j == NameKind.free&&env.scope.kind == .function&&env.kindOf n == some .cell)=true
    ·simp_all
    ·simp_all
   |false=>
    by_cases hc:(j == NameKind.free&&env.scope.kind == .function&&env.kindOf n == some .cell)=true
    ·
     simp only[hc,if_true,List.lookup_cons,q] at h;exact d h
    ·
     have a:(j == NameKind.free&&env.scope.kind == .function&&env.kindOf n == some .cell)=false:=by simpa using hc
     simp only[a,Bool.false_eq_true,if_false,List.lookup_cons,q] at h;exact d h
 exact key _ h
theorem BW {h:Heap} (e:h.get? b=some o) (hn:h.objs.size<=n):b≠n:=Nat.ne_of_lt (Nat.lt_of_lt_of_le (Heap.lt_size e) hn)
structure AI (X:Cx) (scope:Scope) (N:List Str) (nv:Nat) (ix:List Nat):Prop where
 kind:scope.kind = .function
 nocell: ∀y∈scope.names,y.2≠ .cell
 names: ∀y∈scope.names,y.2 = .local->scope.names.lookup y.1=some .local
 fre: ∀y∈scope.names,y.2 = .free->X.env.kindOf y.1=some .cell\/X.env.kindOf y.1=some .free
 len:N.length=nv+ix.length
 at_: ∀j y,N[nv+j]?=some y->∃i,ix[j]?=some i/\X.N[i]?=some y/\(X.env.kindOf y=some .cell\/X.env.kindOf y=some .free)/\scope.names.lookup y=some .free
noncomputable def jL (nv:Nat) (ix:List Nat) (σ:St):St:=List.replicate nv none++ix.map fun i=>(σ[i]?).join
section
theorem Fe (S:AI X scope N nv ix) (I:Inv X pins σ H s) (d: ∀y c,cl.lookup y=some c->X.env.cells.lookup y=some c) (B: ∀y∈scope.names,y.2 = .free->∃c,cl.lookup y.1=some c) (n: ∀b∈fp,xK X pins H b) (Q: ∀b∈fp,b<s.heap.objs.size) (U:s.heap.objs.size<=C) (hD:s.heap.objs.size<=D) (hDC:D≠C) (old: ∀b o,s.heap.get? b=some o->h1.get? b=some o) (hm:h1.Ns C m) (W:h1.get? D=some oD) (F: ∀v,oD.data≠ .cell v):
  Inv (X.comp scope cl C N s H fp) [(D,oD)] (jL nv ix σ) H {s with heap:=h1,toks:=tk}:=by
 refine⟨⟨I.ok.mod,S.kind,I.ok.glob,I.ok.blt,U,fun x y c Y J=>I.ok.inj x y c (d x c Y) (d y c J),fun x hx=>?_,fun _ _ z=>absurd z Bool.false_ne_true,I.ok.hd,I.ok.frames,.inl rfl,fun b hb=>⟨fun z=>?_,fun x c e=>(n b hb).2.2.2.2.1 x c (d x c e)⟩,I.bs,
  Nat.le_trans I.ok.bsz I.sz,fun b o e hb=>?_,fun b hb z=>?_,I.stack,I.uQ⟩,rfl,I.bare,Un.kept old,⟨m,hm,fun i x v Y J e3=>?_⟩,fun x c e=>?_,I.hok.fresh U,fun x c e=>I.mU x c (d x c e),fun p hp=>?_,I.hok.kept old,?_⟩
 ·
  have O:=hx;have fr:scope.names.lookup x=some .free:=by
   rcases O with z|z
   ·
    rcases qa z with q|q
    ·exact absurd rfl (S.nocell _ (PySem.mem_of_lookup q))
    ·exact q.1
   ·
    rcases qa z with q|q
    ·exact q
    ·simp_all
  exact B (x,.free) (PySem.mem_of_lookup fr) rfl
 ·exact Nat.ne_of_lt (Nat.lt_of_lt_of_le (Q b hb) U) z
 ·
  rcases(n b hb).2.2.2.1 with z|z
  ·exact I.ok.noex b o e z
  ·exact BW e (Nat.le_trans I.ok.bsz z) rfl
 ·
  rcases List.mem_cons.mp (I.zk b z) with q|q
  ·exact(n b hb).2.1 q
  ·exact(n b hb).2.2.1 q
 ·
  have P:N[i]?=some x:=Y;by_cases hi:i<nv
  ·
   have a:(jL nv ix σ)[i]?=some (some v):=J;unfold jL at a;rw[List.getElem?_append_left (by simp_all),List.getElem?_replicate,if_pos hi] at a;cases a
  ·
   obtain⟨j,rfl⟩: ∃j,i=nv+j:=⟨i - nv,by lia⟩;obtain⟨k,hk,hN,hkd,Z⟩:=S.at_ j x P;have a:(jL nv ix σ)[nv+j]?=some (some v):=J;unfold jL at a;rw[List.getElem?_append_right (by simp),List.length_replicate,Nat.add_sub_cancel_left,List.getElem?_map,hk] at a;have e4:σ[k]?=some (some v):=by
    have e5:(σ[k]?).join=some v:=by simp_all
    cases q:σ[k]?<;>(simp_all)
   obtain⟨m0,_,hl⟩:=I.loc;have vis:Vis X.env.scope x:=by
    rcases hkd with z|z
    ·exact .inr (.inl z)
    ·exact .inr (.inr z)
   obtain⟨u,r,l⟩:=hl k x v hN e4 vis;refine⟨u,r,?_⟩;rcases l with⟨z,_⟩|⟨_,c,hc,E⟩
   ·simp_all
   ·
    obtain⟨c',G⟩:=B (x,.free) (PySem.mem_of_lookup Z) rfl;have:=d x c' G;rw[hc] at this;cases this;refine .inr ⟨?_,c,G,E.keeps old⟩;rcases e3 with z|z|z
    ·
     rcases qa z with q|q
     ·simp_all
     ·cases q.2
    ·exact .inl z
    ·exact .inr z
 ·
  obtain⟨v,q⟩:=I.cell x c (d x c e);exact⟨v,q.keeps old⟩
 ·
  have hp':p∈[(D,oD)]:=hp;have e:p=(D,oD):=by simp_all
  subst e;refine⟨W,I.hok.fresh hD,hDC,fun z=>?_,F⟩;rcases List.mem_cons.mp (I.zk D z) with q|q
  ·exact Nat.ne_of_gt (Nat.lt_of_lt_of_le I.lt hD) q
  ·exact I.nofs hD q
 ·
  show(jL nv ix σ).length=N.length;unfold jL;rw[List.length_append,List.length_replicate,List.length_map,S.len]
theorem LM (I:Inv X pins σ H s) (a: ∀b∈fp,xK X pins H b) (hD:s.heap.objs.size<=D) (J:Inv (X.comp scope cl C N s H fp) [(D,{cls:= .type "list",data:= .seq its.toArray n})] σ' H' s') (r:Vals ys its) (j:ys.length<=sizeLine):Inv X pins σ (upd H' D (.lst ys)) s':=by
 obtain⟨x,d,_⟩:=J.pin (D,{cls:= .type "list",data:= .seq its.toArray n}) (by simp[Cx.comp]);have U:=J.base;have i: ∀b o,s.heap.get? b=some o->b≠D:=fun b o e=>BW e hD;refine I.call' J.os ⟨U.keep,U.slot,fun b o e n hx=>?_,U.there,fun b xs e=>?_,fun b o xs e=>?_,fun b m e=>?_⟩ (fun b u e=>?_) J.bare fun b hb=>(a b hb).2.2.2 |> fun z=>⟨z.1,(a b hb).2.1,z.2.1,z.2.2⟩
 ·rw[ah (i b o e)];exact U.free b o e n hx
 ·
  have q:=U.tups b xs e;rw[ah (ax q d)];exact q
 ·
  have q:=U.frzs b o xs e;rw[ah (ax q d)];exact q
 ·
  obtain⟨more,q⟩:=U.tbls b m e;exact⟨_,by rw[ah (ax q d)];exact q⟩
 ·
  by_cases hb:b=D
  ·
   subst hb;rw[aa] at e;cases e;exact⟨j,its,n,r,x⟩
  ·
   rw[ah hb] at e;exact(J.hok b u e).stay (fun c v _ q=>q) (fun c q=>by rw[ah (ax q d)];exact q) fun c xs q=>by rw[ah (ax q d)];exact q
end
section
theorem Dm {prog:Program} {w:World} {A:Around} {R:Result->Shared->Prop} {s:Shared} {elt target iter:Expr} {ifs:List Expr} {scope:Scope} {pos:Pos} {it acc:Value} {env:Env} (I:Nat->Shared->Prop)
  (
   turn: ∀n s,I n s->wpAny (model prog w) A (pyNext it) (fun r d=>match r with
   |none=>R (.ok .next) d
   |
     some v=>wpAny (model prog w) A (letOwnedTupleGo target it v) (fun _ s₀=>wpAny (model prog w) A (assign target env v) (fun _ u=>
     wpAny (model prog w) A (forIn ifs true fun c r=>if r=true then do let ok<-isTrue c env (eval c env);pure (ForInStep.yield ok) else pure (ForInStep.yield r)) (fun ok a=>
      if ok=true then wpAny (model prog w) A (eval elt env) (fun x i=>
       wpAny (model prog w) A (call (.builtin "list.append") [acc,x]) (fun _ z=> ∃m,m<n/\I m z) (fun _ _=>False) i) (fun _ _=>False) a
      else∃m,m<n/\I m a) (fun _ _=>False) u) (fun _ _=>False) s₀) (fun _ _=>False) d) (fun _ _=>False) s)
  (n:Nat) (h:I n s):
  codeAny (model prog w) A (.compLoop (.ListComp elt [⟨target,iter,ifs,0⟩] scope pos) 0 it acc env) R s:=by
 refine codeAny_loop rfl I (fun n s F=>?_) n h;refine wpAny_noted ?_;rw[compTurn_list];refine wpAny_bind (wpAny_standAt (wpAny_bind (wpAny_mono (turn n s F) (fun r d j=>?_) fun _ _ h'=>h'.elim)));cases r with
 |none=>exact wpAny_pure j
 |some v=>
  refine wpAny_bind (wpAny_mono j (fun _ s₀ h₀=>?_) fun _ _ h'=>h'.elim);refine wpAny_bind (wpAny_mono h₀ (fun _ u C=>wpAny_bind (wpAny_mono C (fun ok a y=>?_) fun _ _ h'=>h'.elim)) fun _ _ h'=>h'.elim);cases ok with
  |false=>exact wpAny_pure ⟨rfl,y⟩
  |true=>
   exact wpAny_bind (wpAny_bind (wpAny_mono y (fun x i B=>wpAny_bind (wpAny_mono B (fun _ z E=>wpAny_pure (wpAny_pure ⟨rfl,E⟩)) fun _ _ h'=>h'.elim)) fun _ _ h'=>h'.elim))
end
def XQ:TT:=fun _ H Q=>Q true H
def oF (J:It) (g:TG) (tt:TT) (F:TE) (n:St) (E:Hp) (Q:List V->Hp->Prop):Prop:=
 ∃W:Nat->Nat->List V->St->Hp->Prop,(∃m,W 0 m [] n E)/\∀i m v u H',W i m v u H'->
  (
   J.stop i H'/\Q v H')\/(J.go i H'/\v.length<sizeLine/\∃N:List V->St->Hp->Prop,(∀s j a,N s j a->∃B,B<m/\W (i+1) B s j a)/\
   ∀x a,J.yld i H' x a->g x u a fun d G=>tt d G fun b z=>if b=true then F d z fun y C=>N (v++ [y]) d C else N v d z)
def xN (nv:Nat) (ix:List Nat) (wi:TI) (g:TG) (tt:TT) (d:TE):TE:=fun σ H Q=>wi σ H fun J i=>oF J g tt d (jL nv ix σ) i fun a H'=>a.length<=sizeLine/\∀D,H' D=none->Q (.ref D) (upd H' D (.lst a))
section
def PTs (X:Cx) (ifs:List Expr) (tt:TT):Prop:=
 ∀(a:List (Addr×Obj)) (s:Shared) (σ:St) (H:Hp) (Q:Bool->Hp->Prop),Inv X a σ H s->tt σ H Q->
  wpAny (model X.prog X.w) X.A (forIn ifs true fun c r=>if r=true then do let ok<-isTrue c X.env (eval c X.env);pure (ForInStep.yield ok) else pure (ForInStep.yield r)) (TP X a σ Q) X.xe s
theorem bR:PTs X [] XQ:=fun _ _ _ H _ I h=>wpAny_tests_nil ⟨H,I,h⟩
theorem MQ (h:PT X c tt):PTs X [c] tt:=fun a s σ H Q I hw=>wpAny_tests_one (h _ s σ H Q I hw)
theorem Ca {X:Cx} {tg elt iter:Expr} {ifs:List Expr} {scope:Scope} {N:List Str} {nv:Nat} {ix:List Nat} {pos:Pos} {wi:TI} {g:TG} {tt:TT} {te:TE} {use:Option (Value->Sem Unit)} {Qv:Value->Shared->Prop} {P:List (Addr×Obj)} {s:Shared} {σ:St} {H:Hp} {Q:List V->Hp->Prop} (hc:X.calm=true) (S:AI X scope N nv ix) (hi:PI X tg iter wi)
  (hg: ∀cl C s H ex,PG (X.comp scope cl C N s H ex) tg g) (ht: ∀cl C s H ex,PTs (X.comp scope cl C N s H ex) ifs tt) (he: ∀cl C s H ex,PE (X.comp scope cl C N s H ex) elt te) (I:Inv X P σ H s)
  (h:wi σ H fun J H1=>oF J g tt te (jL nv ix σ) H1 fun Y H'=>Y.length<=sizeLine/\Q Y H')
  (fin: ∀Y D C H' s' (a:Shared) (σ2:St),Q Y H'->H' D=none->D≠C->Inv X P σ (upd H' D (.lst Y)) s'->(∃m,s'.heap.Ns C m)->(∀H'',H'' C=none->xK X P H'' C)->H' C=none->compPost (model X.prog X.w) X.A X.xe use Qv (.ref D) C (.ok .next) s')
  (hs: ∀x,foldedSetIterable iter X.env x=pure x):
  wpAny (model X.prog X.w) X.A (comprehension (.ListComp elt [⟨tg,iter,ifs,0⟩] scope pos) scope X.env (firstIterPos [⟨tg,iter,ifs,0⟩] pos) (newList []) false (eval iter X.env) use) Qv X.xe s:=by
 obtain⟨cl,hclos,hcl,hcl2⟩:=Fj (scope:=scope) fun y hy hf=>I.ok.has y.1 (S.fre y hy hf);refine wpAny_comprehension_free (use:=use) rfl hs hclos S.kind S.names (thn (hi P s σ H _ I h) fun v s1 h1=>thn h1 fun itv a h2=>?_);obtain⟨it,O,tn,J,H2,e,I2,T,st2,f2,W,⟨m0,w0⟩,turn⟩:=h2;subst e;refine wpAny_newObj_type (wpAny_newFunctionEnv S.nocell (by simp_all) (fun F E B=>?_) S.kind);dsimp only at E B⊢;generalize hH2:a.heap.push {cls:= .type "list",dict:=none,data:= .seq ([]:List Value).toArray}=G2 at E B⊢;have hC:G2.objs.size=a.heap.objs.size+1:=by rw[<-hH2,Heap.size_push]
 have hDC:a.heap.objs.size≠G2.objs.size:=by simp_all
 have old: ∀b o,a.heap.get? b=some o->F.get? b=some o:=fun b o e=>B.extBut b o (BW e (by simp_all)) (Heap.get?_push_of_some _ (hH2▸Heap.get?_push_of_some _ e));have hacc:F.get? a.heap.objs.size=some {cls:= .type "list",data:= .seq ([]:List Value).toArray 0}:=B.extBut _ _ hDC (Heap.get?_push_of_some _ (hH2▸Heap.get?_push_size _ rfl));have hob: ∀b∈O,b<a.heap.objs.size:=fun b hb=>by
  obtain⟨o,e,_⟩:=T.obj _ _ st2 b hb;exact Heap.lt_size e
 have hCle:a.heap.objs.size<=G2.objs.size:=by simp_all
 have I4: ∀tk,Inv (X.comp scope cl G2.objs.size N a H2 O) [(a.heap.objs.size,{cls:= .type "list",data:= .seq ([]:List Value).toArray 0})] (jL nv ix σ) H2 {a with heap:=F,toks:=tk}:=fun tk=>
  Fe S I2 hcl hcl2 f2 hob hCle (Nat.le_refl _) hDC old E hacc (fun v z=>by cases z)
 have U:tn 0 F:=T.keep _ _ _ st2 fun b _ o e=>old b o e;have stat: ∀{H':Hp} {pns:List (Addr×Obj)},(∀p∈pns,p.1=a.heap.objs.size)->(∀b∈O,H' b=none)->∀b∈O,xK (X.comp scope cl G2.objs.size N a H2 O) pns H' b:=fun{H' pns} hp hn b hb=>by
  obtain⟨f0,f1,f3,f4,f5,f6⟩:=f2 b hb;have hlt:=hob b hb;refine⟨hn b hb,fun z=>?_,fun z=>?_,.inl hb,fun x c e=>f5 x c (hcl x c e),fun p hp' z=>?_⟩
  ·exact Nat.ne_of_lt (Nat.lt_of_lt_of_le hlt hCle) z
  ·
   rcases List.mem_cons.mp (I2.zk b z) with q|q
   ·trivial
   ·trivial
  ·
   have hp'':p∈pns:=‹_›;exact Nat.ne_of_gt (by rw[hp p hp''];exact hlt) z
 have loop: ∀s₃:Shared,s₃={a with heap:=F,toks:=a.toks+([]:List (Str×Value)).length}->
   codeAny (model X.prog X.w) X.A (.compLoop (.ListComp elt [⟨tg,iter,ifs,0⟩] scope pos) 0 (.ref it) (.ref a.heap.objs.size) (compEnvC scope cl G2.objs.size X.env))
    (compPost (model X.prog X.w) X.A X.xe use Qv (.ref a.heap.objs.size) G2.objs.size) s₃:=by
  rintro s₃ rfl;refine Dm (fun n s'=> ∃i Y j G H',Inv (X.comp scope cl G2.objs.size N a H2 O) [(a.heap.objs.size,{cls:= .type "list",data:= .seq j.toArray j.length})] G H' s'/\tn i s'.heap/\(∀b∈O,H' b=none)/\Vals Y j/\W i n Y G H') ?_ m0
   ⟨0,[],[],_,H2,I4 _,U,fun b hb=>(f2 b hb).1,.nil,w0⟩
  rintro n s' ⟨i,Y,j,G,H',I',st',fr',rv,w'⟩;have pin1: ∀{o:Obj},∀p∈[(a.heap.objs.size,o)],p.1=a.heap.objs.size:=fun{o} p hp=>by
   simp_all
  rcases turn i n Y G H' w' with⟨stop,hl,qn⟩|⟨go,hlen,Nx,hN,step⟩
  ·
   refine thn (T.done (X.comp scope cl G2.objs.size N a H2 O) rfl rfl rfl hc i _ s' G H' (fun _ _=>False) I' (stat pin1 fr') st' stop) fun r s4 ⟨hr,I5⟩=>?_;subst hr;obtain⟨m5,hm5,_⟩:=I5.loc;have fD:=(I5.pin (a.heap.objs.size,{cls:= .type "list",data:= .seq j.toArray j.length}) (List.mem_append_right _ (by simp))).2.1;exact fin Y _ _ H' s4 a G qn fD hDC (LM I2 f2 (Nat.le_refl _) I5 rv hl) ⟨m5,hm5⟩ (fun H'' hn=>I2.Dh hCle hn) I5.free
  ·
   refine thn (T.item (X.comp scope cl G2.objs.size N a H2 O) rfl rfl rfl hc i _ s' G H' (fun _ _=>False) I' (stat pin1 fr') st' go) fun r s4 ⟨u,hr,h4⟩=>?_;subst hr;refine thn h4 fun _ s5 ⟨x,H5,I5,r5,y5,st5,fr5⟩=>?_;have I5':=I5.pinned (stat pin1 fr5) (T.obj _ _ st5);refine thn (hg _ _ _ _ _ _ s5 G H5 x u _ I5' r5 (step x H5 y5)) fun _ s6 ⟨Z,H6,I6,q6⟩=>?_;refine thn (ht _ _ _ _ _ _ s6 Z H6 _ I6 q6) fun b s7 ⟨H7,I7,q7⟩=>?_;have back: ∀{σ8:St} {H8:Hp} {s8:Shared},Inv (X.comp scope cl G2.objs.size N a H2 O) ([(a.heap.objs.size,{cls:= .type "list",data:= .seq j.toArray j.length})]++CU O s5.heap) σ8 H8 s8->tn (i+1) s8.heap/\∀b∈O,H8 b=none:=fun{σ8 H8 s8} J=>
    ⟨
     T.keep _ _ _ st5 fun b hb o e=>(J.pin (b,o) (List.mem_append_right _ (List.mem_append_right _ (ql hb e)))).1,fun b hb=>by
     obtain⟨o,e,d⟩:=T.obj _ _ st5 b hb;exact(J.pin (b,o) (List.mem_append_right _ (List.mem_append_right _ (ql hb e)))).2.1⟩
   cases b with
   |false=>
    rw[if_neg Bool.false_ne_true] at q7;obtain⟨m',hm,w7⟩:=hN _ _ _ q7;exact⟨m',hm,i+1,Y,j,Z,H7,I7.unpinned,(back I7).1,(back I7).2,rv,w7⟩
   |true=>
    rw[if_pos rfl] at q7;refine lY (he _ _ _ _ _ _ s7 Z H7 _ I7 q7) fun y s8 yv H8 I8 r8 q8=>?_;obtain⟨eD,fD,nD,nfD,dD⟩:=I8.pin (a.heap.objs.size,{cls:= .type "list",data:= .seq j.toArray j.length}) (List.mem_append_right _ (by simp));refine append_at (hsz:=by rw[List.size_toArray,<-rv.length];exact Nat.le_of_lt hlen) eD fun h₅ hs₅ hD₅=>?_;obtain⟨m',hm,w8⟩:=hN _ _ _ q8;have fpD:a.heap.objs.size ∉ O:=fun z=>Nat.lt_irrefl _ (hob _ z);have I9:Inv (X.comp scope cl G2.objs.size N a H2 O) [] Z H8 s8:=I8.yV fun p hp=>absurd hp (by simp);have fk:=I2.Dh (H':=H8) (Nat.le_refl _) fD;have I10:Inv (X.comp scope cl G2.objs.size N a H2 O) [] Z H8 {s8 with heap:=h₅,toks:=s8.toks}:=
     I9.turned (it:=a.heap.objs.size) (fun b o hb e=>hs₅.extBut b o hb e) fD nD (.inr (Nat.le_refl _)) (fun x c e=>fk.2.2.2.2.1 x c (hcl x c e)) (fun p hp=>absurd hp (by simp[Cx.comp]))
    refine⟨m',hm,i+1,Y++ [yv],j++ [y],Z,H8,I10.yV fun p hp=>?_,?_,(back I8).2,rv.append (.cons r8 .nil),w8⟩
    ·
     have e:p=(a.heap.objs.size,{cls:= .type "list",data:= .seq (j++ [y]).toArray (j++ [y]).length}):=by simpa using hp
     subst e;refine⟨?_,fD,nD,nfD,fun v z=>by cases z⟩;show h₅.get? a.heap.objs.size=_;rw[hD₅,List.push_toArray,List.length_append,List.length_singleton]
    ·exact T.keep _ _ _ (back I8).1 fun b hb o e=>hs₅.extBut b o (fun z=>fpD (by have z':b=a.heap.objs.size:=z;rw[<-z'];exact hb)) e
 exact codeAny_compStart_list (loop _ rfl) (T.self _ 0 _ _ _ U (loop _ rfl))
theorem b8 (hc:X.calm=true) (S:AI X scope N nv ix) (v:PI X tg iter wi) (hg: ∀cl C s H ex,PG (X.comp scope cl C N s H ex) tg g) (ht: ∀cl C s H ex,PTs (X.comp scope cl C N s H ex) ifs tt) (he: ∀cl C s H ex,PE (X.comp scope cl C N s H ex) elt te) (z: ∀x,foldedSetIterable iter X.env x=pure x:=by intro _;rfl):PE X (.ListComp elt [⟨tg,iter,ifs,0⟩] scope pos) (xN nv ix wi g tt te):=by
 intro j s σ H Q I h;refine Ca (Q:=fun a H'=> ∀D,H' D=none->Q (.ref D) (upd H' D (.lst a))) hc S v hg ht he I ?_ (fun a D C H' U P G q u i J hm B n=>?_) z
 ·exact h
 ·
  obtain⟨m,hm⟩:=hm;refine⟨m,hm,fun h' F=>⟨.ref D,_,?_,rfl,q D u⟩⟩;have d:upd H' D (.lst a) C=none:=by rw[ah (Ne.symm i)];exact n
  obtain⟨f0,f1,W,O,E,y⟩:=B _ d;exact J.turned (fun b o hb e=>F.extBut b o hb e) f0 f1 O E y
theorem ve (hc:X.calm=true) (O:X.N.Nodup) (n:X.N[i]?=some x) (hx:X.env.scope.names.lookup x=some .local) (S:AI X scope N nv ix) (Y:PI X tg iter wi) (hg: ∀cl C s H ex,PG (X.comp scope cl C N s H ex) tg g) (ht: ∀cl C s H ex,PTs (X.comp scope cl C N s H ex) ifs tt) (he: ∀cl C s H ex,PE (X.comp scope cl C N s H ex) elt te) (j:swapsWith (.ListComp elt [⟨tg,iter,ifs,0⟩] scope pos) (some (.Name x px)) spos.line X.env=pure true:=by rfl) (hs: ∀x,foldedSetIterable iter X.env x=pure x:=by intro _;rfl):PS X (.Assign [.Name x px] (.ListComp elt [⟨tg,iter,ifs,0⟩] scope pos) spos) (DF (xN nv ix wi g tt te) (pP i)):=by
 intro E s σ H D I h;rw[exec_Assign_Name_used _ _ _ _ j];refine wpAny_bind (wpAny_standAt (wpAny_bind ?_));refine wpAny_bind (thn (Ca hc S Y hg ht he I h (fun W l C H' s' s2 σ2 q Q B J hm fk G=>?_) hs)
  fun _ s' hq=>wpAny_pure (wpAny_pure hq))
 obtain⟨m,hm⟩:=hm;have u:upd H' l (.lst W) C=none:=by rw[ah (Ne.symm B)];exact G
 obtain⟨f0,f1,f2,f3,F,Z⟩:=fk _ u;refine wpAny_assign_Name (BJ J O n (.inl hx) (v:= .ref l) rfl (fun P U ⟨a,sb,ha⟩=>?_) (.inr hx));have d:C≠a:=by
  rcases ha with z|z
  ·simp_all
  ·exact Ne.symm (F x a z)
 refine⟨m,hm.sameBut sb d,fun h' y=>⟨_,_,?_,q l Q⟩⟩;exact U.turned (fun b o hb e=>y.extBut b o hb e) f0 f1 f3 F Z
end
noncomputable def Its (x:Str):It:=⟨fun i _=>i<x.cps.size,fun i H v H'=>H'=H/\∃c,x.cps[i]?=some c/\v = .str ⟨#[c]⟩,fun i _=>x.cps.size<=i⟩
theorem DC {P:Program} {w:World} {K:W.Frag} {Z:Expr} (it:Addr) (x:Str) (t:Tok) (T:String) (n:T = "str_ascii_iterator" \/T = "str_iterator"):Turn P w K Z (Its x) [it] it (fun i h=>h.IsStrIter it T x t i) where
 mem:=by simp
 obj:=fun i h st b hb=>by
  have e:b=it:=by simp_all
  subst e;obtain⟨o,e,c,d⟩:=st;exact⟨o,e,fun v z=>by simp_all⟩
 keep:=fun i h h' st k=>by
  obtain⟨o,e,r⟩:=st;exact⟨o,k it (by simp) o e,r⟩
 item:=by
  intro X O hw J hc i j s σ H E I hf st hg;subst O hw J;obtain⟨f0,f1,f2,C,B,y⟩:=hf it (by simp);have a:=hg;have W:Walks X.prog X.w X.A it [it] [it] x.cps.size (SignAt x) (fun i h=>h.IsStrIter it T x t i):=by
   rcases n with rfl|rfl
   ·exact Walks.strAscii (I.ok.hd hc) it x t
   ·exact Walks.strWide (I.ok.hd hc) it x t
  refine W.item i s _ _ a st fun v h' tk Q m U=>?_;obtain⟨c,u,F,rfl⟩:=Q;have Y:Inv X _ σ H {s with heap:=h',toks:=tk}:=I.turned (fun b o hb e=>U b o (by simp_all) e) f0 f1 C B y;obtain⟨o,e,c',d⟩:=id m;refine⟨_,rfl,Gm e c' d (by rcases n with rfl|rfl<;>decide) ⟨.str _,H,Y,⟨u,rfl⟩,⟨rfl,c,F,rfl⟩,m,fun b hb=>(hf b hb).1⟩⟩
 done:=by
  intro X O hw J hc i j s σ H E I hf st hg;obtain⟨f0,f1,f2,C,B,y⟩:=hf it (by simp);have a:x.cps.size<=i:=hg;have he:x.cps[i]?=none:=by simp_all
  rcases n with rfl|rfl
  ·exact wpAny_pyNext_ascii_end (I.ok.hd hc) st he fun h' G=>⟨rfl,I.turned (fun b o hb e=>G b o hb e) f0 f1 C B y⟩
  ·exact wpAny_pyNext_wide_end (I.ok.hd hc) st he fun h' G=>⟨rfl,I.turned (fun b o hb e=>G b o hb e) f0 f1 C B y⟩
 self:=fun _ _ _ _ _ st h=>by
  rcases n with rfl|rfl
  ·exact wpAny_pyIter_striter_ascii st h
  ·exact wpAny_pyIter_striter_wide st h
def uV (K:W.Frag) (x:V) (d:Hp) (R:It->Hp->Prop):Prop:=match x with
 | .ref a=>(∃xs,bO K d a xs/\R (Itl K a) d)\/(∃xs,n_ K d a xs/\R (Itt K a) d)
 | .str z=>R (Its z) d
 |_=>False
def Np (K:W.Frag) (a:TE):TI:=fun σ H R=>a σ H fun x d=>uV K x d R
theorem UP (B:PE X l tl):PI X tg l (Np X.K tl):=by
 intro u s σ H R I h;refine lY (B _ s σ H _ I h) fun v s1 x i d y q1=>?_;cases x with
 |ref a=>
  cases y;rcases q1 with⟨xs,m,q⟩|⟨xs,m,q⟩
  ·
   obtain⟨j,E,p,C⟩:=d.list m;refine wpAny_pyIter_list p.isList ?_;refine⟨_,_,_,_,i,rfl,d.kept fun b o e=>Heap.get?_push_of_some _ e,GH a _,⟨_,Heap.get?_push_size _ rfl,rfl,rfl⟩,fun b hb=>?_,q⟩;have e:b=s1.heap.objs.size:=by simp_all
   subst e;exact d.Dh (Nat.le_refl _) (d.hok.fresh (Nat.le_refl _))
  ·
   obtain⟨j,E,p,C⟩:=d.tuple m;refine wpAny_pyIter_tuple ((p)) ?_;refine⟨_,_,_,_,i,rfl,d.kept fun b o e=>Heap.get?_push_of_some _ e,Eo a _,⟨_,Heap.get?_push_size _ rfl,rfl,rfl⟩,fun b hb=>?_,q⟩;have e:b=s1.heap.objs.size:=by simp_all
   subst e;exact d.Dh (Nat.le_refl _) (d.hok.fresh (Nat.le_refl _))
 |str z=>
  obtain⟨t,rfl⟩:=y;have n: ∀b∈[s1.heap.objs.size],xK X _ i b:=fun b hb=>by
   have e:b=s1.heap.objs.size:=by simp_all
   subst e;exact d.Dh (Nat.le_refl _) (d.hok.fresh (Nat.le_refl _))
  cases ha:z.cps.all _
  ·exact wpAny_pyIter_wide ha ⟨_,_,_,_,i,rfl,d.kept fun b o e=>Heap.get?_push_of_some _ e,DC _ z t _ (.inr rfl),⟨_,Heap.get?_push_size _ rfl,rfl,rfl⟩,n,q1⟩
  ·exact wpAny_pyIter_ascii ha ⟨_,_,_,_,i,rfl,d.kept fun b o e=>Heap.get?_push_of_some _ e,DC _ z t _ (.inl rfl),⟨_,Heap.get?_push_size _ rfl,rfl,rfl⟩,n,q1⟩
 |_=>exact q1.elim
def forR (J:It) (g:TG) (n:TS) (D:Ends) (σ:St) (H:Hp):Prop:= ∃W:Nat->Nat->St->Hp->Prop,(∃m,W 0 m σ H)/\∀i m σ H,W i m σ H->
 (J.stop i H/\D.nx σ H)\/(J.go i H/\∃N:St->Hp->Prop,(∀a H',N a H'->∃j,j<m/\W (i+1) j a H')/\∀x H',J.yld i H x H'->g x σ H' fun d s=>n {D with nx:=N,ct:=N,bk:=D.nx} d s)
section
variable {K:W.Frag}
theorem Ig:Mj (Np K tl) g tb D σ H=tl σ H fun x d=>uV K x d fun J a=>forR J g tb D σ a:=rfl
theorem GO:xN nv ix (Np K tl) g tt te σ H Q=tl σ H fun x i=>uV K x i fun J d=>oF J g tt te (jL nv ix σ) d fun a H'=>a.length<=sizeLine/\∀l,H' l=none->Q (.ref l) (upd H' l (.lst a)):=rfl
def BM (vs:List V) (a:Hp) (R:It->Hp->Prop):Prop:=match vs with
 | [.int j]=>(-(2 ^ 62)<=j/\j<2 ^ 62)/\R (NU 0 j.toNat) a
 |_=>False
def JE (a:TA):TI:=fun σ H R=>a σ H fun vs d=>BM vs d R
theorem GK:Mj (JE ta) g tb D σ H=ta σ H fun vs d=>BM vs d fun J a=>forR J g tb D σ a:=rfl
theorem Er:xN nv ix (JE ta) g tt te σ H Q=ta σ H fun vs i=>BM vs i fun J d=>oF J g tt te (jL nv ix σ) d fun a H'=>a.length<=sizeLine/\∀l,H' l=none->Q (.ref l) (upd H' l (.lst a)):=rfl
theorem GU:BM [.int j] H R=((-(2 ^ 62)<=j/\j<2 ^ 62)/\R (NU 0 j.toNat) H):=rfl
end
section
theorem BR (hg:Gl X "range") (hm:X.mg "range" = none) (ha:PA X [a] ta) (j:starEach [a] X.env= [(false,eval a X.env)]:=by rfl):PI X tg (.Call (.Name "range" p) [a] [] pos) (JE ta):=by
 intro d s σ H R I h;refine Call_ (t9 I hg hm boot_range (PyProof.Rows.callWith_type1 (lY (ha _ _ s σ H _ I h) fun us s1 vs n m u q1=>?_) j rfl));replace q1:BM vs n R:=q1;unfold BM at q1;split at q1
 ·
  obtain⟨⟨q1,q2⟩,q⟩:=q1;cases u with
  |cons r i=>
   cases i;obtain⟨t,rfl⟩:=r;exact call_range_1 (Iy m (by lia) (by lia) q1 q2 (by simp_all))
 ·simp_all
end
section
theorem vE {K:W.Frag} (s:bO K H a xs) (Pv:Nat->St->Hp->Prop) (h0:Pv 0 σ H) (m: ∀i σ H,i<=xs.length->Pv i σ H->bO K H a xs) (n: ∀i x σ H,xs[i]?=some x->Pv i σ H->g x σ H fun d j=>tb {D with nx:=Pv (i+1),ct:=Pv (i+1),bk:=D.nx} d j) (hd: ∀σ H,Pv xs.length σ H->D.nx σ H):
  uV K (.ref a) H fun J j=>forR J g tb D σ j:= .inl ⟨xs,s,Lz Pv h0 m n hd⟩
theorem Xf {lo:Int} (Pv:Nat->St->Hp->Prop) (h0:Pv 0 σ H) (j: ∀(i:Nat) σ H,i<n->Pv i σ H->g (.int (lo+i)) σ H fun a d=>tb {D with nx:=Pv (i+1),ct:=Pv (i+1),bk:=D.nx} a d) (hd: ∀σ H,Pv n σ H->D.nx σ H):
  forR (NU lo n) g tb D σ H:=HH Pv h0 j hd
end
section
variable {K:W.Frag}
theorem s9 {tt:TT} {C:TE} {H:Hp} {tail:St} {Q:List V->Hp->Prop} {p:V->Bool} {f:V->V} {J:It} {n:Nat} {xs:List V} (hn:xs.length=n) (G:n<=sizeLine) (go: ∀i,i<n->J.go i H) (stop:J.stop n H) (E: ∀i x H',i<n->J.yld i H x H'->H'=H/\xs[i]?=some x)
  (ht: ∀x∈xs,∀Q:Bool->Hp->Prop,Q (p x) H->tt (some x::tail) H Q) (he: ∀x∈xs,p x=true->∀Q:VK,Q (f x) H->C (some x::tail) H Q) (q:Q ((xs.filter p).map f) H):
  oF J (pP 0) tt C (none::tail) H Q:=by
 refine⟨fun i m B u H'=>i<=n/\m=n - i/\B=((xs.take i).filter p).map f/\(∃v,u=v::tail)/\H'=H,⟨n,Nat.zero_le _,rfl,rfl,⟨_,rfl⟩,rfl⟩,?_⟩;rintro i m B u H' ⟨F,rfl,rfl,⟨v,rfl⟩,rfl⟩;by_cases e:i=n
 ·
  subst e;refine .inl ⟨stop,?_⟩;rw[List.take_of_length_le (by lia)];exact q
 ·
  have z:i<n:=by lia
  refine .inr ⟨go i z,?_,fun s d j=>s=((xs.take _).filter p).map f/\(∃v,d=v::tail)/\j=H',fun s d j ⟨a,b,c⟩=>⟨_,by lia,‹_›,rfl,a,b,c⟩,fun x j y=>?_⟩
  ·grind
  ·
   obtain⟨rfl,hx⟩:=E i x _ z y;have hm:=List.mem_of_getElem? hx;have tk:xs.take (i+1)=xs.take i++ [x]:=by
    rw[List.take_succ,hx];rfl
   refine ht x hm _ ?_;cases I:p x<;>simp_all
theorem kY (d:bO K H a xs) (j:xs.length<=sizeLine) (ht: ∀x∈xs,∀Q:Bool->Hp->Prop,Q (p x) H->tt (some x::tail) H Q) (he: ∀x∈xs,p x=true->∀Q:VK,Q (f x) H->te (some x::tail) H Q) (q:Q ((xs.filter p).map f) H):
  uV K (.ref a) H fun J n=>oF J (pP 0) tt te (none::tail) n Q:=
 .inl ⟨xs,d,s9 rfl j (fun i m=>⟨xs,xs[i],d,by simp_all⟩) ⟨xs,d,Nat.le_refl _⟩ (fun i x H' m y=>⟨y.1,y.2 xs d⟩) ht he q⟩
theorem Fh (d:n_ K H a xs) (j:xs.length<=sizeLine) (ht: ∀x∈xs,∀Q:Bool->Hp->Prop,Q (p x) H->tt (some x::tail) H Q) (he: ∀x∈xs,p x=true->∀Q:VK,Q (f x) H->te (some x::tail) H Q) (q:Q ((xs.filter p).map f) H):
  uV K (.ref a) H fun J n=>oF J (pP 0) tt te (none::tail) n Q:=
 .inr ⟨xs,d,s9 rfl j (fun i m=>⟨xs,xs[i],d,by simp_all⟩) ⟨xs,d,Nat.le_refl _⟩ (fun i x H' m y=>⟨y.1,y.2 xs d⟩) ht he q⟩
noncomputable def jH (z:Str):List V:=z.cps.toList.map fun c=> .str ⟨#[c]⟩
theorem LN (d:z.length<=sizeLine) (ht: ∀x∈jH z,∀Q:Bool->Hp->Prop,Q (p x) H->tt (some x::tail) H Q) (he: ∀x∈jH z,p x=true->∀Q:VK,Q (f x) H->te (some x::tail) H Q) (q:Q (((jH z).filter p).map f) H):
  uV K (.str z) H fun J j=>oF J (pP 0) tt te (none::tail) j Q:=by
 refine s9 (n:=z.cps.size) (by simp[jH]) d (fun i a=>a) (Nat.le_refl _) (fun i x H' a y=>?_) ht he q;obtain⟨e,c,hc,rfl⟩:=y;refine⟨e,?_⟩;unfold jH;rw[List.getElem?_map,Array.getElem?_toList,hc];rfl
noncomputable def UB (lo:Int) (n:Nat):List V:=(List.range n).map fun i:Nat=> .int (lo+(i:Int))
theorem LO {tt:TT} {d:TE} {H:Hp} {tail:St} {Q:List V->Hp->Prop} {p:V->Bool} {f:V->V} {lo:Int} {n:Nat} (j:n<=sizeLine) (ht: ∀i:Nat,i<n->∀Q:Bool->Hp->Prop,Q (p (.int (lo+i))) H->tt (some (.int (lo+i))::tail) H Q) (he: ∀i:Nat,i<n->p (.int (lo+i))=true->∀Q:VK,Q (f (.int (lo+i))) H->d (some (.int (lo+i))::tail) H Q)
  (q:Q (((UB lo n).filter p).map f) H):oF (NU lo n) (pP 0) tt d (none::tail) H Q:=by
 refine s9 (by simp[UB]) j (fun i a=>a) (Nat.le_refl _) (fun i x H' a y=>?_) (fun x hx=>?_) (fun x hx=>?_) q
 ·
  obtain⟨e,rfl⟩:=y;refine⟨e,?_⟩;unfold UB;rw[List.getElem?_map,List.getElem?_range a];rfl
 ·
  obtain⟨i,a,rfl⟩:=List.mem_map.mp hx;exact ht i (List.mem_range.mp a)
 ·
  obtain⟨i,a,rfl⟩:=List.mem_map.mp hx;exact he i (List.mem_range.mp a)
theorem Fg:jL 1 ix σ=none::ix.map fun i=>(σ[i]?).join:=rfl
end
section
def G9 (neg:Bool):R2:=fun x y H Q=>match y with
 | .non=>Q (.bl (if neg then !decide (x = .non) else decide (x = .non))) H
 |_=>False
theorem jU:jS X (compareOp .Is) (G9 false):=jS.imp U4 fun x y H Q h=>by
 unfold G9 at h;split at h
 ·trivial
 ·trivial
theorem DS:jS X (compareOp .IsNot) (G9 true):=jS.imp M_ fun x y H Q h=>by
 unfold G9 at h;split at h
 ·trivial
 ·trivial
theorem UE:G9 false x .non H Q=Q (.bl (decide (x = .non))) H:=rfl
theorem UD:G9 true x .non H Q=Q (.bl (!decide (x = .non))) H:=rfl
theorem Me {K:W.Frag}:Ut K "str" (.str z) H=True:=by
 show("str" = "str")=True;simp
def ahP:V->Option Int->Option Int->Hp->VK->Prop:=fun x lo a H Q=> ∃z,x = .str z/\z.length<=sizeLine/\Q (.str (Txt.slice z lo a)) H
theorem DQ (h:IsPart v o): ∃l:Option (Int×Tok),v=partValue l/\l.map (·.1)=o:=by
 cases h with
 |none=>exact⟨none,rfl,rfl⟩
 |int i t=>exact⟨some (i,t),rfl,rfl⟩
theorem UA:GG X ahP:=by
 intro d s σ H x v E G lo a C Q I y i pl pu h;obtain⟨z,rfl,m,q⟩:=h;obtain⟨t,rfl⟩:=y;obtain⟨l,rfl,B⟩:=DQ pl;obtain⟨u,rfl,j⟩:=DQ pu;refine⟨_,_,F.slot_str_getitem.lookup,typeIs_str _ _ _,wpAny_getItem_str_slice (st:=none) i rfl ?_⟩;unfold sliceMade;have e:slicePicked z l u none=Builtin.Str.strSliceIndices lo a 1 z.length:=by
  unfold slicePicked;rw[B,j];rfl
 rw[e];have n:Txt.slice z lo a=if((1:Int) == 1&&(Builtin.Str.strSliceIndices lo a 1 z.length).length == z.length)=true then z else⟨((Builtin.Str.strSliceIndices lo a 1 z.length).filterMap (z.cps[·]?)).toArray⟩:=rfl;have hle:=Txt.slice_le z lo a;rw[n] at q hle;show(if((1:Int) == 1&&(Builtin.Str.strSliceIndices lo a 1 z.length).length == z.length)=true then Made.val (.str z t) else _).post _ s;by_cases c:((1:Int) == 1&&(Builtin.Str.strSliceIndices lo a 1 z.length).length == z.length)=true
 ·
  rw[if_pos c] at q⊢;exact⟨.str z,H,I,⟨t,rfl⟩,q⟩
 ·
  rw[if_neg c] at q hle⊢;exact⟨Nat.le_trans hle m,.str _,H,I.tok _,⟨_,rfl⟩,q⟩
def ID (K:W.Frag):V->Option Int->Option Int->Hp->VK->Prop:=fun x lo d H Q=>match x with
 | .ref a=>(∃xs,bO K H a xs/\∀p,H p=none->Q (.ref p) (upd H p (.lst (k9 xs lo d))))\/X8 K (.ref a) lo d H Q
 | .str z=>z.length<=sizeLine/\Q (.str (Txt.slice z lo d)) H
 |_=>False
theorem GG.imp (h:GG X r) (i: ∀x lo a H Q,r' x lo a H Q->r x lo a H Q):GG X r':=
 fun d s σ H x v u y lo a j Q I n m pl pu q=>h _ s σ H x v u y lo a j Q I n m pl pu (i _ _ _ _ _ q)
theorem ahN:GG X (ID X.K):=by
 refine GG.imp (Ml.or (Uz.or UA)) fun x lo d H Q h=>?_;unfold ID at h;split at h
 ·
  rcases h with⟨xs,h1,a⟩|h
  ·exact .inl ⟨_,xs,rfl,h1,a⟩
  ·simp_all
 ·exact .inr (.inr ⟨_,rfl,h.1,h.2⟩)
 ·trivial
theorem j_ {K:W.Frag} {lo:Option Int} (d:bO K H a xs) (h: ∀p,H p=none->Q (.ref p) (upd H p (.lst (k9 xs lo hi)))):ID K (.ref a) lo hi H Q:= .inl ⟨xs,d,h⟩
def DO (K:W.Frag) (neg:Bool):R2:=fun x y H Q=>match y with
 | .ref p=> ∃xs,(bO K H p xs\/n_ K H p xs)/\pR x=true/\xs.all pR=true/\Q (.bl (if neg then !HX x xs else HX x xs)) H
 | .str j=>(match x with
  | .str i=>Q (.bl (if neg then !(!(Builtin.Str.occurrences j i 0 j.length 1).isEmpty) else !(Builtin.Str.occurrences j i 0 j.length 1).isEmpty)) H
  |_=>False)
 |_=>False
theorem U6:jS X (compareOp .In) (DO X.K false):=by
 refine jS.imp (jS.or Hk Hj) fun x y H Q h=>?_;unfold DO at h;split at h
 ·
  obtain⟨xs,h1,i,a,d⟩:=h;exact .inl ⟨_,xs,rfl,h1,i,a,d⟩
 ·
  split at h
  ·simp_all
  ·simp_all
 ·simp_all
theorem Hi:jS X (compareOp .NotIn) (DO X.K true):=by
 refine jS.imp (jS.or CY CV) fun x y H Q h=>?_;unfold DO at h;split at h
 ·
  obtain⟨xs,h1,i,a,d⟩:=h;exact .inl ⟨_,xs,rfl,h1,i,a,d⟩
 ·
  split at h
  ·exact .inr ⟨_,_,rfl,rfl,h⟩
  ·exact h.elim
 ·exact h.elim
theorem IV {K:W.Frag}:DO K neg x (.ref p) H Q=(∃xs,(bO K H p xs\/n_ K H p xs)/\pR x=true/\xs.all pR=true/\Q (.bl (if neg then !HX x xs else HX x xs)) H):=rfl
theorem IU {K:W.Frag}:DO K neg (.str i) (.str j) H Q=Q (.bl (if neg then !(!(Builtin.Str.occurrences j i 0 j.length 1).isEmpty) else !(Builtin.Str.occurrences j i 0 j.length 1).isEmpty)) H:=rfl
end
inductive Dt where
 |non|int (i:Int)|str (z:Str)|l (ds:List Dt)|t (ds:List Dt)
theorem Paired.get: ∀{xs:List α} {a:List β} {i:Nat} {x:α},Paired F xs a->xs[i]?=some x->∃y,a[i]?=some y/\F x y
 |_,_,_,_,.nil,e=>by trivial
 |_,_,0,_,.cons r _,e=>by simp_all
 |_,_,i+1,x,.cons _ t,e=>by
  obtain⟨u,h1,d⟩:=Paired.get t (‹_›);exact⟨u,‹_›,d⟩
open Classical in
theorem Dv {α:Type} {xs d:List α} (i:xs.length=d.length) (h: ∀j a b,xs[j]?=some a->d[j]?=some b->e j=decide (a=b)):(List.range xs.length).all e=decide (xs=d):=by
 rw[Bool.eq_iff_iff,List.all_eq_true,decide_eq_true_eq];constructor
 ·
  intro q;refine List.ext_getElem i fun j h1 m=>?_;have:=q j (List.mem_range.mpr h1);rw[h j xs[j] d[j] (by simp) (by simp_all),decide_eq_true_eq] at this;exact this
 ·simp_all
section
variable {X:Cx} {pins:List (Addr×Obj)} {σ:St} {H:Hp} {s:Shared}
open Classical in
theorem tY: ∀{xs:List V} {a i:List Dt},Paired F xs a->Paired G xs i->(∀x d e,F x d->G x e->d=e)->a=i
 |_,_,_,.nil,.nil,_=>rfl
 |_,_,_,.cons r t,.cons r' t',f=>by rw[f _ _ _ r r',tY t t' f]
theorem rV (I:Inv X pins σ H s) (h:bO X.K H a xs) (h':n_ X.K H a ys):False:=by
 obtain⟨m,_,p,_⟩:=I.list h;obtain⟨j,_,u,_⟩:=I.tuple h';obtain⟨o,n,e,c,_⟩:=p;obtain⟨v,d,i,_⟩:=u;rw[e] at d;cases d;rw[c] at i;injection i with z;exact absurd z (by decide)
theorem FC {d a:List Value} (h: ¬d.length=a.length):(d.toArray.size != a.toArray.size)=true:=by
 simp_all
open Classical in
open Classical in
theorem s_ {d:List Dt} (hn:n=ds.length) (i:ds.length=d.length):(List.range n).all (fun j=>decide (ds[j]?=d[j]?))=decide (ds=d):=by
 subst hn;exact Dv i fun j a b ha hb=>by
  simp_all
open Classical in
end
section
open Classical in
open Classical in
end
noncomputable def ahk (a scope:Scope) (d N:List Str) (nv:Nat) (ix:List Nat):Bool:=
 scope.kind == .function&&scope.names.all (fun y=>y.2 != .cell&&(y.2 != .local||scope.names.lookup y.1 == some .local)&&(y.2 != .free||(a.names.lookup y.1 == some .cell||a.names.lookup y.1 == some .free)))&&
  N.length == nv+ix.length&&(List.range ix.length).all fun j=>match N[nv+j]?,ix[j]? with
   |some y,some i=>d[i]? == some y&&(a.names.lookup y == some .cell||a.names.lookup y == some .free)&&scope.names.lookup y == some .free
   |_,_=>false
theorem iX (h:ahk X.env.scope scope X.N N nv ix=true):AI X scope N nv ix:=by
 unfold ahk at h;simp only[Bool.and_eq_true,beq_iff_eq,List.all_eq_true,List.mem_range,Bool.or_eq_true,bne_iff_ne] at h;obtain⟨⟨⟨h1,d⟩,m⟩,n⟩:=h;refine⟨h1,fun y a=>(d y a).1.1,fun y a s=>?_,fun y a hf=>?_,m,fun j y e=>?_⟩
 ·
  rcases(d y a).1.2 with z|z
  ·trivial
  ·exact z
 ·
  rcases(d y a).2 with z|z
  ·trivial
  ·exact z
 ·have i:j<ix.length:=by
   have:=(List.getElem?_eq_some_iff.mp e).1;lia
  have q:=n j i;rw[e,List.getElem?_eq_getElem i] at q;simp only[Bool.and_eq_true,beq_iff_eq,Bool.or_eq_true] at q;exact⟨_,List.getElem?_eq_getElem i,q.1.1,q.1.2,q.2⟩
def TupAt (K:W.Frag) (mg:Str->Option Value) (x:Str) (vs:List V):Prop:=
 ∃(a:Addr) (o:Obj) (d:Array Value) (n:Nat),mg x=some (.ref a)/\K.lookup a=some o/\o.cls = .type "tuple" /\o.dict=none/\o.data = .seq d n/\d.size<=sizeLine/\Vals vs d.toList
def tTC (K:W.Frag) (vs:List V):TE:=fun _ H Q=> ∀a,(∀H,n_ K H a vs)->(∀H,Ut K "tuple" (.ref a) H)->Q (.ref a) H
theorem M1 (hg:Gl X x) (h:TupAt X.K X.mg x vs) (hd:(x == ("__debug__" : Str))=false:=by decide):PE X (.Name x pos) (tTC X.K vs):=by
 obtain⟨a,o,i,n,hm,hk,hc,j,d,u,r⟩:=h;intro m s σ H Q I q;exact jy I hg hm ⟨.ref a,H,I,rfl,q a (fun H=> .inr ⟨o,i,n,hk,hc,d,u,r⟩) (fun H=> .inr (.inl ⟨rfl,o,hk,hc,j⟩))⟩ hd
theorem yQ (bs:List Bool):(List.range bs.length).all (fun i=>bs.getD i false)=bs.all id:=by
 rw[Bool.eq_iff_iff,List.all_eq_true,List.all_eq_true];constructor
 ·
  intro h b hb;obtain⟨i,d,rfl⟩:=List.getElem_of_mem hb;have:=h i (List.mem_range.mpr d);simpa [d] using this
 ·
  intro h i d;have a:=List.mem_range.mp d;have:=h _ (List.getElem_mem a);simpa [a] using this
theorem preSum_eq (ns:List Int): ∀n,n<=ns.length->preSum (fun i=>ns.getD i 0) n=(ns.take n).sum
 |0,_=>rfl
 |n+1,h=>by
  rw[preSum,preSum_eq ns n (by lia),List.take_succ,List.sum_append];simp[show n<ns.length by lia]
section
def MN (K:W.Frag) (any:Bool):List V->Hp->VK->Prop:=fun xs H Q=>match xs with
 | [.ref p]=> ∃bs:List Bool,bO K H p (bs.map V.bl)/\Q (.bl (if any then bs.any id else bs.all id)) H
 |_=>False
theorem DE {bs:List Bool} (r:Vals (bs.map V.bl) its):TruthOf prog w A (fun i v=>its.toArray[i]?=some v) (fun i=>bs.getD i false):=by
 intro i v s Q E y d;have a:its[i]?=some v:=by simp_all
 have n:i<bs.length:=by
  have:=(List.getElem?_eq_some_iff.mp a).1;have l:=r.length;rw[List.length_map] at l;lia
 obtain⟨u,j,m⟩:=r.get (i:=i) (x:= .bl bs[i]) (by simp_all);rw[a] at j;cases j;cases m;have e:bs.getD i false=bs[i]:=by simp_all
 replace d:Q (bs.getD i _) s:=d;rw[e] at d;exact wpAny_truthy_bool d
theorem LU (hc:X.calm=true):bP X (.builtin "all") (MN X.K false):=by
 intro d s σ H xs us Q I rs q;unfold MN at q;split at q
 ·
  rename_i p;obtain⟨u,rfl,i⟩:=vals1 rs;cases i;obtain⟨bs,m,q⟩:=q;obtain⟨j,r,pl,n⟩:=I.list m;have a:p<s.heap.objs.size:=by obtain⟨o,e,_⟩:=pl.isList;exact Heap.lt_size e
  have hlen:=r.length;rw[List.length_map] at hlen;refine call_all_walk (wpAny_pyIter_list pl.isList ⟨_,_,_,_,_,_,_,rfl,Walks.list (A:=X.A.in1) (I.ok.hd hc) _ p (Nat.ne_of_lt a) _,⟨⟨_,Heap.get?_push_size _ rfl,rfl,rfl⟩,pl.isList.push _⟩,DE r,fun h' tk hk=>?_⟩);refine⟨_,H,I.kept fun b o e=>hk b o (fun z=>BW e (Nat.le_refl _) (List.mem_singleton.mp z)) (Heap.get?_push_of_some _ e),?_,q⟩;rw[List.size_toArray,<-hlen,yQ];rfl
 ·trivial
def Ms (K:W.Frag):List V->Hp->VK->Prop:=fun xs H Q=>match xs with
 | [.ref p]=> ∃ns:List Int,bO K H p (ns.map V.int)/\Q (.int ns.sum) H
 |_=>False
theorem LR (hc:X.calm=true):bP X (.builtin "sum") (Ms X.K):=by
 intro y s σ H xs us Q I rs q;unfold Ms at q;split at q
 ·
  rename_i p;obtain⟨u,rfl,d⟩:=vals1 rs;cases d;obtain⟨ns,C,q⟩:=q;obtain⟨j,r,pl,F⟩:=I.list C;have a:p<s.heap.objs.size:=by obtain⟨o,e,_⟩:=pl.isList;exact Heap.lt_size e
  have hlen:=r.length;rw[List.length_map] at hlen;refine call_sum_walkG (wpAny_pyIter_list pl.isList ⟨_,_,_,_,_,_,fun i=>ns.getD i 0,rfl,Walks.list (A:=X.A.in1) (I.ok.hd hc) _ p (Nat.ne_of_lt a) _,⟨⟨_,Heap.get?_push_size _ rfl,rfl,rfl⟩,pl.isList.push _⟩,fun b hb=>?_,fun i v E=>?_,fun h' tk t' hk=>?_⟩)
  ·
   have:b=s.heap.objs.size\/b=p:=by simp_all
   rw[Heap.size_push];rcases this with rfl|rfl
   ·simp_all
   ·exact Nat.lt_succ_of_lt a
  ·
   have m:j[i]?=some v:=by simp_all
   have B:i<ns.length:=by
    grind
   obtain⟨u,n,d⟩:=r.get (i:=i) (x:= .int ns[i]) (by simp);rw[m] at n;cases n;obtain⟨t,rfl⟩:=d;exact⟨t,by simp[B]⟩
  ·
   refine⟨.int _,H,I.kept fun b o e=>hk b o (fun z=>BW e (Nat.le_refl _) (List.mem_singleton.mp z)) (Heap.get?_push_of_some _ e),⟨t',?_⟩,q⟩;rw[List.size_toArray,<-hlen,preSum_eq ns _ (Nat.le_refl _),List.take_length]
 ·trivial
theorem I_ {K:W.Frag}:MN K false [.ref p] H Q=(∃bs:List Bool,bO K H p (bs.map V.bl)/\Q (.bl (bs.all id)) H):=rfl
theorem Iz {K:W.Frag}:Ms K [.ref p] H Q=(∃ns:List Int,bO K H p (ns.map V.int)/\Q (.int ns.sum) H):=rfl
def CI (K:W.Frag):List V->Hp->VK->Prop:=fun xs H Q=>match xs with
 | [.ref p]=> ∃a,(bO K H p a\/n_ K H p a)/\∀l,H l=none->Q (.ref l) (upd H l (.lst a))
 |_=>False
theorem Fl:bP X (.type "list") (CI X.K):=bP.imp Dp fun xs H Q h=>by
 unfold CI at h;split at h
 ·simp_all
 ·simp_all
theorem ED {K:W.Frag}:CI K [.ref p] H Q=(∃a,(bO K H p a\/n_ K H p a)/\∀l,H l=none->Q (.ref l) (upd H l (.lst a))):=rfl
def rJ:V->List V->Hp->VK->Prop:=fun x vs H Q=>match x,vs with
 | .ref l,[y]=> ∃xs,H l=some (.lst xs)/\xs.length<sizeLine/\Q .non (upd H l (.lst (xs++ [y])))
 |_,_=>False
theorem EW:XN X "list.append" rJ:=by
 intro a s σ H x xs v us Q I m rs q;unfold rJ at q;split at q
 ·
  obtain⟨d,h1,j,i⟩:=q;exact Hr _ s σ H _ _ v us Q I m rs ⟨_,d,_,rfl,rfl,h1,j,i⟩
 ·trivial
theorem Hg (ho:PE X o to) (he:PE X e te) (d:attributeBase o "append" X.env (eval o X.env)=eval o X.env:=by rfl) (j:((backTo cpos (starEach [e] X.env)).all (fun x=>!x.1)&&(backToKw cpos (keywordEach [] X.env)).all (fun x=>x.1.isSome)
   &&decide ([e].length+([]:List Keyword).length+(if([]:List Keyword).isEmpty then 0 else 1)<30))=true:=by rfl) (i:(apos.endLine == cpos.line)=true:=by rfl) (m:starEach [e] X.env=(false,eval e X.env)::starEach [] X.env:=by rfl) (a:(backTo cpos (starEach [] X.env)).any (·.1)=false:=by rfl):
  PE X (.Call (.Attribute o "append" apos) [e] [] cpos) (XZ X.K "list" rJ to (qY te we)):=
 FU F.plainAttrs_list F.slot_list_append F.type_list_append EW ho (FV he jJ m) d j i m a
theorem qX {K:W.Frag} (h:bO K H a xs):Ut K "list" (.ref a) H:= .inl ⟨rfl,xs,h⟩
theorem CJ:rJ (.ref l) [y] H Q=(∃xs,H l=some (.lst xs)/\xs.length<sizeLine/\Q .non (upd H l (.lst (xs++ [y])))):=rfl
def IF:V->V->V->Hp->(Hp->Prop)->Prop:=fun o i v H Q=>match o,i with
 | .ref p,.int k=> ∃xs j,H p=some (.lst xs)/\L7 xs.length k=some j/\Q (upd H p (.lst (xs.set j v)))
 |_,_=>False
theorem X6:NT X IF:=by
 intro a s σ H o i v d B u Q I y x z q;unfold IF at q;split at q
 ·
  obtain⟨xs,j,h1,m,n⟩:=q;exact set_list _ s σ H _ _ v d B u Q I y x z ⟨_,xs,_,j,rfl,rfl,h1,m,n⟩
 ·trivial
theorem GX:IF (.ref p) (.int k) v H Q=(∃xs j,H p=some (.lst xs)/\L7 xs.length k=some j/\Q (upd H p (.lst (xs.set j v)))):=rfl
def zE (K:W.Frag):R2:=fun x y H Q=>match x,y with
 | .ref p,.int i=> ∃xs v,(bO K H p xs\/n_ K H p xs)/\x_ xs i=some v/\Q v H
 | .str z,.int i=> ∃c,z.length<=sizeLine/\x_ z.cps.toList i=some c/\Q (.str ⟨#[c]⟩) H
 |_,_=>False
theorem Ej.imp (h:Ej X r) (i: ∀x y H Q,r' x y H Q->r x y H Q):Ej X r':=fun value slice a s σ H x y v u Q I m d q j=>h _ _ _ s σ H x y v u Q I m d (i _ _ _ _ q) j
theorem alK:Ej X (zE X.K):=Ej.imp WO fun x y H Q h=>by
 unfold zE at h;split at h
 ·
  obtain⟨xs,v,h1,d,a⟩:=h;rcases h1 with h1|h1
  ·exact .inl ⟨_,xs,_,v,rfl,rfl,h1,d,a⟩
  ·exact .inr (.inl ⟨_,xs,_,v,rfl,rfl,h1,d,a⟩)
 ·
  obtain⟨c,h1,d,a⟩:=h;exact .inr (.inr ⟨_,_,c,rfl,rfl,h1,d,a⟩)
 ·trivial
theorem D8 {K:W.Frag} (h:bO K H p xs) (e:x_ xs i=some v) (q:Q v H):zE K (.ref p) (.int i) H Q:=⟨xs,v,.inl h,e,q⟩
theorem yX {K:W.Frag} (h:n_ K H p xs) (e:x_ xs i=some v) (q:Q v H):zE K (.ref p) (.int i) H Q:=⟨xs,v,.inr h,e,q⟩
theorem KQ {K:W.Frag} {ns:List Int} (d:bO K H a (ns.map V.int)) (h0:0<=k) (h1:k<(ns.length:Int)) (q:Q (.int (ns.getD k.toNat 0)) H):zE K (.ref a) (.int k) H Q:=by
 refine D8 d ?_ q;obtain⟨j,rfl⟩: ∃j:Nat,k=(j):=⟨k.toNat,by lia⟩;refine NQ ?_;have i:j<ns.length:=by lia
 simp[i]
end
section
theorem E7:Lx t u (v::r) σ H Q=t v σ H fun a H'=>u r a H' Q:=by
 apply propext;constructor
 ·
  rintro⟨i,d,e,h⟩;cases e;exact h
 ·
  intro h;exact⟨v,r,rfl,h⟩
theorem Lw:ahf [] σ H Q=Q σ H:=by
 apply propext;exact⟨fun h=>h.2,fun h=>⟨rfl,h⟩⟩
theorem Xk {P:Int->Prop}:(∃k,V.int i = .int k/\P k)=P i:=by
 simp_all
theorem Ew (h:n<=1000):(n<=sizeLine)=True:=by
 have:=sizeLine_eq;simp only[eq_iff_iff,iff_true];lia
end
section
variable {X:Cx} (K:W.Frag) (h:X.K=K)
theorem FY (h:X.K=K):jS X (binaryOp .Add) (tL K):=h▸Nc
theorem m9 (h:X.K=K):bP X (.builtin "len") (xQ K):=h▸HS
theorem kj (h:X.K=K):bP X (.builtin "isinstance") (qb K):=h▸LS
theorem oU (h:X.K=K):jS X (compareOp .In) (DO K false):=h▸U6
theorem Hh (h:X.K=K):jS X (compareOp .NotIn) (DO K true):=h▸Hi
theorem Ex (h:X.K=K):GG X (ID K):=h▸ahN
theorem agg (h:X.K=K):Ej X (zE K):=h▸alK
theorem bC (h:X.K=K) (a:PE X l tl):PI X tg l (Np K tl):=h▸UP a
theorem lT (h:X.K=K) (hc:X.calm=true):bP X (.builtin "all") (MN K false):=h▸LU hc
theorem HM (h:X.K=K) (hc:X.calm=true):bP X (.builtin "sum") (Ms K):=h▸LR hc
theorem uJ (h:X.K=K):bP X (.type "list") (CI K):=h▸Fl
theorem pF (h:X.K=K) (hg:Gl X x) (ht:TupAt K X.mg x vs) (hd:(x == ("__debug__" : Str))=false:=by decide):PE X (.Name x pos) (tTC K vs):=by
 subst h;exact M1 hg ht hd
theorem MY {a:List Expr} {k:Nat} {pos:Pos} {t:Uj} {n:Nat} (h:X.K=K) (hc:X.calm=true) (hh:L9 X a t)
  (hn:(assignEach a X.env).length=n:=by rfl) (d:(assignEach a X.env).findIdx? (·.1)=none:=by rfl):PG X (.Tuple a k pos) (Xd K n t):=h▸UR hc hh hn d
theorem kM {o e:Expr} {j:List Expr} {to:TE} {t:TA} {name:Str} {apos a:Pos} {T id:String} {r:V->List V->Hp->VK->Prop} (h:X.K=K) (pa:PlainAttrs T) (slot:Slot T name id) (n:typeOf (.builtin id)=pure (.type "method_descriptor")) (hm:XN X id r) (ho:PE X o to) (ha:PA X (e::j) t)
  (i:attributeBase o name X.env (eval o X.env)=eval o X.env:=by rfl)
  (
   hfew:((backTo a (starEach (e::j) X.env)).all (fun x=>!x.1)&&(backToKw a (keywordEach [] X.env)).all (fun x=>x.1.isSome)
   &&decide ((e::j).length+([]:List Keyword).length+(if([]:List Keyword).isEmpty then 0 else 1)<30))=true:=by rfl)
  (m:(apos.endLine == a.line)=true:=by rfl) (s:starEach (e::j) X.env=(false,eval e X.env)::starEach j X.env:=by rfl) (d:(backTo a (starEach j X.env)).any (·.1)=false:=by rfl):
  PE X (.Call (.Attribute o name apos) (e::j) [] a) (XZ K T r to t):=h▸FU pa slot n hm ho ha i hfew m s d
theorem qd (h:X.K=K) (ho:PE X o to) (he:PE X e te) (d:attributeBase o "append" X.env (eval o X.env)=eval o X.env:=by rfl) (j:((backTo cpos (starEach [e] X.env)).all (fun x=>!x.1)&&(backToKw cpos (keywordEach [] X.env)).all (fun x=>x.1.isSome)
   &&decide ([e].length+([]:List Keyword).length+(if([]:List Keyword).isEmpty then 0 else 1)<30))=true:=by rfl) (i:(apos.endLine == cpos.line)=true:=by rfl) (m:starEach [e] X.env=(false,eval e X.env)::starEach [] X.env:=by rfl) (a:(backTo cpos (starEach [] X.env)).any (·.1)=false:=by rfl):
  PE X (.Call (.Attribute o "append" apos) [e] [] cpos) (XZ K "list" rJ to (qY te we)):=h▸Hg ho he d j i m a
end
def ahK (t u:TS):TS:=fun D σ H=> ∃M:St->Hp->Prop,t {D with nx:=M} σ H/\∀a H',M a H'->u D a H'
theorem MR {st:Stmt} {rest:List Stmt} (h1:PS X st t) (i:ya X rest u):ya X (st::rest) (ahK t u):=by
 intro a s σ H D I ⟨M,h,k⟩;refine wpAny_execs_cons (thn (h1 _ s σ H _ I h) fun f s1 q=>?_);cases f with
 |next=>
  obtain⟨d,H',j,q⟩:=q;exact i _ s1 _ H' D j (k _ H' q)
 |ret v=>exact q
 |brk=>exact q
 |cont=>exact q
noncomputable def isStar:Expr->Bool
 | .Starred .. =>true
 |_=>false
theorem bL (h:isStar e=false):starEach (e::es) env=(false,eval e env)::starEach es env:=by
 cases e<;>first|rfl|exact absurd h (by simp[isStar])
theorem kO {pos:Pos} {env:Env}: ∀{a:List Expr},a.any isStar=false->(backTo pos (starEach a env)).any (·.1)=false
 | [],_=>rfl
 |e::a,h=>by
  rw[List.any_cons,Bool.or_eq_false_iff] at h;rw[bL h.1];show(false||(backTo _ _).any _)=false;rw[kO h.2];rfl
theorem tP (h:isStar e=false):(assignEach (e::es) env).map (·.2)=assign e env::(assignEach es env).map (·.2):=by
 cases e<;>first|rfl|trivial
theorem n9 {env:Env}: ∀{a:List Expr},(assignEach a env).length=a.length
 | []=>rfl
 |e::a=>by
  have d:=@n9 env a;cases e<;>(show(assignEach a _).length+1=a.length+1;rw[d])
theorem k6 {env:Env}: ∀{a:List Expr},a.any isStar=false->(assignEach a env).findIdx? (·.1)=none
 | [],_=>rfl
 |e::a,h=>by
  rw[List.any_cons,Bool.or_eq_false_iff] at h;have i:=k6 (env:=env) h.2;have d:assignEach (e::a) env=(false,assign e env)::assignEach a env:=by
   have:=h.1;cases e<;>first|rfl|trivial
  rw[d,List.findIdx?_cons,i];rfl
noncomputable def wF:Expr->Bool
 | .UnaryOp .Not _ _=>false
 | .BoolOp .. =>false
 | .IfExp .. =>false
 | .Compare .. =>false
 |_=>true
theorem HA (h:wF e=true) (whole:Sem Value):isTrue e env whole=(do let v<-whole;standAt e.pos;holding [v] (truthy v)):=by
 cases e with
 |UnaryOp op a p=>cases op<;>first|rfl|trivial
 |BoolOp=>trivial
 |IfExp=>trivial
 |Compare=>exact absurd h (by simp[wF])
 |_=>rfl
section
theorem eQ (ha:PE X e te) (hr:PA X es t) (h:isStar e=false:=by rfl):PA X (e::es) (qY te t):=FV ha hr (bL h)
theorem U2 [Quiet CX] (G:FnAt X.prog X.w X.K X.mg X.base CX x k ps sp) (hr:cG n X.A) (hk:k<=n) (hg:Gl X x) (ha:PA X (e::es) t) (a:(x == ("__debug__" : Str))=false:=by decide) (h:(e::es).any isStar=false:=by rfl):PE X (.Call (.Name x p) (e::es) [] pos) (BI sp [] E0 t):=by
 rw[List.any_cons,Bool.or_eq_false_iff] at h;exact Ym G hr hk hg ha a (bL h.1) (kO h.2)
theorem aL {X:Cx} {x:Str} {p pos:Pos} {e:Expr} {a:List Expr} {t:TA} {id:String} {r:List V->Hp->VK->Prop} (hc:bP X (.builtin id) r) (hg:Gl X x) (hm:X.mg x=none) (i:bootBuiltins x=some (.builtin id)) (ha:PA X (e::a) t) (hn:x≠ "__name__" :=by decide) (d:(x == ("__debug__" : Str))=false:=by decide)
  (h:(e::a).any isStar=false:=by rfl):PE X (.Call (.Name x p) (e::a) [] pos) (XY r t):=by
 rw[List.any_cons,Bool.or_eq_false_iff] at h;exact Jk hc hg hm i ha hn d (bL h.1) (kO h.2)
theorem cb (hc:bP X (.type T) r) (hg:Gl X x) (hm:X.mg x=none) (d:bootBuiltins x=some (.type T)) (ha:PA X (e::es) t) (hn:x≠ "__name__" :=by decide) (a:(x == ("__debug__" : Str))=false:=by decide) (h:(e::es).any isStar=false:=by rfl):PE X (.Call (.Name x p) (e::es) [] pos) (XY r t):=by
 rw[List.any_cons,Bool.or_eq_false_iff] at h;exact Hf hc hg hm d ha hn a (bL h.1) (kO h.2)
theorem mR (h1:PG X e g) (a:L9 X es u) (h:isStar e=false:=by rfl):L9 X (e::es) (Lx g u):=Jf h1 a (tP h)
theorem FP (K:W.Frag) (a:X.K=K) (hc:X.calm=true) (hh:L9 X es u) (hn:es.length=n:=by rfl) (h:es.any isStar=false:=by rfl):PG X (.Tuple es j pos) (Xd K n u):=
 MY K a hc hh (by rw[n9];exact hn) (k6 h)
theorem qS (he:PE X e te) (h:wF e=true:=by rfl):PT X e (tB te):=UK he (HA h)
end
noncomputable def agi:Expr->Bool
 | .Slice .. =>true
 |_=>false
noncomputable def o3:Expr->Bool
 | .ListComp .. =>true
 | .SetComp .. =>true
 | .DictComp .. =>true
 |_=>false
noncomputable def isTup:Expr->Bool
 | .Tuple .. =>true
 |_=>false
noncomputable def KY:Expr->Bool
 | .Set .. =>true
 |_=>false
theorem qZ (h:o3 e=false):swapsWith e tg l env=pure false:=by
 cases e<;>first|rfl|exact absurd h (by simp[o3])
theorem GP (h:isTup e=false):swappedStores [tg] e env=pure none:=by
 cases tg<;>first|rfl|(cases e<;>first|rfl|cases h)
theorem ju (h:KY b=false):behindInMarks op b=false:=by
 cases b<;>first|rfl|exact absurd h (by simp[KY])
section
theorem MZ (ho:PE X o to) (a:PE X i ti) (d:NT X t) (h:agi i=false:=by rfl):PG X (.Subscript o i pos) (Xe to ti t):=
 US ho a d fun v=>by
  rw[arm_assign_Subscript];cases i<;>first|rfl|exact absurd h (by simp[agi])
theorem FO (he:PE X e te) (hg:PG X tg g) (h1:o3 e=false:=by rfl) (d:isTup e=false:=by rfl) (a:isStar tg=false:=by rfl):PS X (.Assign [tg] e pos) (DF te g):=
 UM he hg (qZ h1) (GP d) (tP a)
theorem FN (a:X.N.Nodup) (d:X.N[i]?=some x) (hx:Loc X.env.scope x) (he:PE X e te) (h:o3 e=false:=by rfl) (hf:X.fn x=true\/X.env.scope.names.lookup x=some .local:=by first|exact .inl rfl|exact .inr rfl|assumption):
  PS X (.Assign [.Name x pos'] e pos) (DF te (pP i)):=UL a d hx he (qZ h) hf
theorem jf (he:PE X e te) (h:o3 e=false:=by rfl):PS X (.Expr e pos) (Ik te):=MU he (qZ h)
end
noncomputable def NM:List Expr->Option (List V)
 | []=>some []
 | .Constant (.str x) _ _::es=>(NM es).map (V.str x :: ·)
 |_::_=>none
def tCs (vs:List V):TA:=fun _ H Q=>Q vs H
theorem Jl {X:Cx}: ∀{a:List Expr} {vs:List V},NM a=some vs->PA X a (tCs vs)
 | [],vs,h=>by
  obtain rfl: []=vs:=by simpa [NM] using h
  exact jJ
 |e::a,vs,h=>by
  unfold NM at h;split at h
  ·rename_i h1;exact absurd h1 (by simp)
  ·
   rename_i x j p d h1;obtain⟨rfl,rfl⟩:=List.cons.inj h1;rw[Option.map_eq_some_iff] at h;obtain⟨ws,i,rfl⟩:=h;exact eQ aT (Jl i)
  ·exact absurd h (by simp)
theorem zh {K:W.Frag} (X:K.In h) (G:h.Ns mainGlobals mg) (a:W.nsIn K mainGlobals x=some (some (.ref b))) (l:K.lookup b=some o) (c:o.cls = .type "tuple") (d:o.dict=none) (e:o.data = .seq its n) (z:its.size<=sizeLine) (r:Vals vs its.toList):TupAt K mg x vs:=
 ⟨b,o,its,n,W.mg_of X G a,l,c,d,e,z,r⟩
end L2
namespace BitM
end BitM
namespace Rem
end Rem
namespace BitI
open PySem L2
end BitI
namespace RemM
open Rem
end RemM
namespace Held
end Held
namespace Com
open PySem L2
theorem af (h:H p=none):a7 H (upd H p o):=fun b u e=>by rw[ah (ax e h)];exact e
theorem Ft {q:Addr} (h:H p=some x) (hn:H q=none):upd H q o p=some x:=by rw[ah (ax h hn)];exact h
theorem ba (h:n<=1000):n<=sizeLine:=by rw[sizeLine_eq];lia
theorem KR (h:H a=some (.lst xs)) (q:Q (.bl true) H):qb K [.ref a,.ty "list"] H Q:=⟨_,_,.lst h,rfl,q⟩
theorem F8 (h:H a=some (.tup xs)) (q:Q (.bl true) H):qb K [.ref a,.ty "tuple"] H Q:=⟨_,_,.tup h,rfl,q⟩
theorem fresh_ne {q:Addr} (h:upd H p o q=none):q≠p:=fun e=>by
 subst e;rw[aa] at h;cases h
theorem HG {q:Addr} (h:upd H p o q=none):H q=none:=by
 rw[ah (fresh_ne h)] at h;exact h
end Com
namespace L2
open PySem PySem.Spec PyProof.Rows
structure cE (K:W.Frag) (mg:Str->Option Value) (x:Str) (C:Addr):Prop where
 Hs:mg x=some (.ref C)
 cl:Uo K C
 mks:W.makesIn K C=true
 kp:W.keepIn K (.ref C)=true
def MethAt (K:W.Frag) (C:Addr) (m q:Str) (st:Stmt):Prop:= ∃f a,Fun K m q st f a/\Meth K C m f
def uM (P:Program) (w:World) (K:W.Frag) (mg:Str->Option Value) (base:Heap) (CX:Em) (C:Addr) (m:Str) (k:Nat) (a:List Str) (sp:Sp):Prop:=
 ∃f d,uN P w K mg base CX k f d a sp/\Meth K C m f/\Binds K d a []
theorem JA {K:W.Frag} (X:K.In h) (G:h.Ns mainGlobals mg) (a:W.nsIn K mainGlobals x=some (some (.ref C))) (pg:W.plainGet K C Str.empty=true) (hd:W.hasDictIn K C=true) (po:W.plainOver K C=true) (sa:W.findIn K (.ref C) "__setattr__" = some (some (.builtin "object.__setattr__"))) (mk:W.makesIn K C=true) (kc:W.keepIn K (.ref C)=true):cE K mg x C:=
 ⟨W.mg_of X G a,⟨pg,hd,po,sa⟩,mk,kc⟩
theorem Ht {K:W.Frag} {q:Str} {st:Stmt} {kV:Value} (a:W.findIn K (.ref C) m=some (some (.ref f))) (i:W.isFn K (.ref f)=true) (l:K.lookup f=some ⟨oc,od,.func (W.fnOf m q (jA st) (fT st) (bp st) .none kV doc pm an cdv ct),osl⟩) (c:W.codeIn K cdv q=true) (k:W.keepIn K (.ref f)=true):MethAt K C m q st:=
 ⟨f,_,Ly l c k,⟨a,i,k⟩⟩
section
theorem MethAt.fn {K:W.Frag} {q:Str} {st:Stmt} (F:MethAt K C m q st) (S:ma N ps (bp st)) (hb: ∀(kV doc pm:Value) (an:Option Addr) (a ct:Value) (us:List Value),us.length=ps.length->bindArgs (W.fnOf m q (jA st) (fT st) (bp st) .none kV doc pm an a ct) ⟨us,[]⟩=pure (ps.zip us)) (len: ∀vs H Q E,sp vs H Q E->vs.length=ps.length) (d: ∀(f:Addr) (a:Value) (A:Around) (outer:List Env) (s:Shared) (H:Hp) (vs:List V) (Q:VK) (E:XK),cG k (A.deeper (envOfC q (bp st) s.heap.objs.size f a))->sp vs H Q E->
   ∃t,ya (yP CX P w K mg base N q (bp st) f a A outer s H E).nox (fT st) t/\t {nx:=fun _ H'=>Q .non H',rt:=Q} (start N vs) H):uM P w K mg base CX C m (k+1) ps sp:=by
 obtain⟨f,v,F,hm⟩:=F;have bd:=F.binds hb;obtain⟨u,x,kV,doc,pm,an,a,ct,n,rfl,lk,i⟩:=F.ex;refine⟨f,_,Gq lk i S len fun A outer s H vs Q E hr j=>?_,hm,bd⟩;obtain⟨t,h,q⟩:=d f _ A _ s H vs Q E hr j;exact⟨t,h.nox,q⟩
end
def MI (C:Addr) (f:Str) (x:V) (H:Hp) (Q:VK):Prop:=match x with
 | .ref a=> ∃dx fs,H a=some (.ins C dx fs)/\∃v,fs.lookup f=some v/\Q v H
 |_=>False
theorem MH (h:MI C f x H Q): ∃a,x = .ref a/\∃dx fs,H a=some (.ins C dx fs)/\∃v,fs.lookup f=some v/\Q v H:=by
 unfold MI at h;split at h
 ·exact⟨_,rfl,h⟩
 ·exact h.elim
def Ij (C:Addr) (f:Str) (a:TE):TE:=fun σ H Q=>a σ H fun x d=>MI C f x d Q
def FG (C:Addr) (f:Str) (y x:V) (H:Hp) (N:Hp->Prop):Prop:=match x with
 | .ref a=> ∃dx fs,H a=some (.ins C dx fs)/\fs.length<1000/\N (upd H a (.ins C dx (bu f y fs)))
 |_=>False
theorem IE (h:FG C f y x H N): ∃a,x = .ref a/\∃dx fs,H a=some (.ins C dx fs)/\fs.length<1000/\N (upd H a (.ins C dx (bu f y fs))):=by
 unfold FG at h;split at h
 ·exact⟨_,rfl,h⟩
 ·exact h.elim
def N3 (C:Addr) (f:Str) (a d:TE):TS:=fun D σ H=>d σ H fun y j=>a σ j fun x i=>FG C f y x i (D.nx σ)
def FK (C:Addr) (f:Str) (x:V) (H:Hp) (K:V->(V->Hp->Prop)->Prop) (N:Hp->Prop):Prop:=match x with
 | .ref a=> ∃dx fs,H a=some (.ins C dx fs)/\∃v,fs.lookup f=some v/\
 K v fun z i=> ∃d fs',i a=some (.ins C d fs')/\fs'.length<1000/\N (upd i a (.ins C d (bu f z fs')))
 |_=>False
theorem I0 {K:V->(V->Hp->Prop)->Prop} (h:FK C f x H K N): ∃a,x = .ref a/\∃dx fs,H a=some (.ins C dx fs)/\∃v,fs.lookup f=some v/\K v fun z i=> ∃d fs',i a=some (.ins C d fs')/\fs'.length<1000/\N (upd i a (.ins C d (bu f z fs'))):=by
 unfold FK at h;split at h
 ·exact⟨_,rfl,h⟩
 ·exact h.elim
def N4 (C:Addr) (f:Str) (d i:TE) (m:R2):TS:=fun D σ H=>d σ H fun x a=>FK C f x a (fun v R=>i σ a fun y j=>m v y j R) (D.nx σ)
def Yb (C:Addr) (m:Str) (x:V) (H:Hp) (N:Prop):Prop:=match x with
 | .ref a=> ∃dx fs,H a=some (.ins C dx fs)/\fs.lookup m=none/\N
 |_=>False
theorem EC (h:Yb C m x H N): ∃a,x = .ref a/\∃dx fs,H a=some (.ins C dx fs)/\fs.lookup m=none/\N:=by
 unfold Yb at h;split at h
 ·exact⟨_,rfl,h⟩
 ·exact h.elim
def Ic (C:Addr) (m:Str) (sp:Sp) (d:TE) (t:TA):TE:=fun σ H Q=>d σ H fun x a=>Yb C m x a (t σ a fun vs i=>sp (x::vs) i Q E0)
theorem IX:MI C f (.ref a) H Q= ∃dx fs,H a=some (.ins C dx fs)/\∃v,fs.lookup f=some v/\Q v H:=rfl
theorem GW:FG C f y (.ref a) H N= ∃dx fs,H a=some (.ins C dx fs)/\fs.length<1000/\N (upd H a (.ins C dx (bu f y fs))):=rfl
theorem Ha {K:V->(V->Hp->Prop)->Prop}:FK C f (.ref a) H K N= ∃dx fs,H a=some (.ins C dx fs)/\∃v,fs.lookup f=some v/\
  K v fun z i=> ∃d fs',i a=some (.ins C d fs')/\fs'.length<1000/\N (upd i a (.ins C d (bu f z fs'))):=rfl
theorem Mv:Yb C m (.ref a) H N= ∃dx fs,H a=some (.ins C dx fs)/\fs.lookup m=none/\N:=rfl
theorem Xl {N:Addr->List (Str×V)->Prop}:(∃dx fs,some (HO.ins C d l)=some (HO.ins C dx fs)/\N dx fs)=N d l:=by
 lia
theorem Xi {N:V->Prop}:(∃v,some x=some v/\N v)=N x:=by
 simp_all
theorem Ho {K:W.Frag} (h:W.findIn K (.ref C) f=some none):a_ K C f:=h
theorem jM (nx:H x=none) (nd:H dx=none):a7 H (upd (upd H dx (.own x)) x (.ins C dx fs)):=fun b o e=>by
 rw[ah (ax e nx),ah (ax e nd)];exact e
section
theorem M7 (he:PE X e ta) (c:cE X.K X.mg x C) (nn:a_ X.K C f) (hb:attributeBase e f X.env (eval e X.env)=eval e X.env):PE X (.Attribute e f pos) (Ij C f ta):=by
 intro d s σ H Q I h;refine GD hb (lY (he _ s σ H _ I h) fun u s1 x n m y B=>?_);obtain⟨a,ex,dx,fs,z,v,l,q⟩:=MH B;subst ex;obtain rfl:u=Value.ref a:=y;exact z6 m z c.cl nn l fun F E j i=>⟨v,n,j,i,q⟩
theorem aY (ha:PE X o ta) (j:PE X value tv) (c:cE X.K X.mg x C) (nn:a_ X.K C f) (n:o3 value=false:=by rfl):PS X (.Assign [.Attribute o f pos'] value pos) (N3 C f ta tv):=by
 intro d s σ H D I h;refine plainObj_wpAny_Assign_Attribute (lY (j _ s σ H _ I h) fun u s1 y z v B q=>lY (ha _ s1 σ z _ v q) fun i O x Q m E J=>?_) (qZ n);obtain⟨a,ex,dx,fs,G,l,q2⟩:=IE J;subst ex;obtain rfl:i=Value.ref a:=E;exact zv m G c.cl nn l B fun P F=>⟨σ,_,F,q2⟩
theorem MV (ha:PE X o ta) (E:PE X value tv) (c:cE X.K X.mg x C) (nn:a_ X.K C f) (i:jS X (inplaceOp op) rd):PS X (.AugAssign (.Attribute o f tpos) op value pos) (N4 C f ta tv rd):=by
 intro j s σ H D I h;refine wpAny_AugAssign_AttributeAny (lY (ha _ s σ H _ I h) fun n s1 x P O rx qq=>?_);obtain⟨a,ex,dx,fs,ea,v,l,q⟩:=I0 qq;subst ex;obtain rfl:n=Value.ref a:=rx;refine z6 O ea c.cl nn l fun u F G m=>lY (E _ F σ P _ G q) fun w3 U y W I3 Y q3=>thn (i _ U σ W v y u w3 _ I3 m Y q3) fun w4 s4 ⟨z,H3,I4,Q,J,fs',d,Z,q4⟩=>?_;exact zv I4 d c.cl nn Z Q fun s5 B=>⟨σ,_,B,q4⟩
theorem UY [Quiet CX] (he:PE X o ta) (c:cE X.K X.mg x C) (G:uM X.prog X.w X.K X.mg X.base CX C m k ps sp) (hr:cG n X.A) (hk:k<=n) (ha:PA X (e::es) t) (d:(e::es).any isStar=false:=by rfl) (ht:eval (.Call (.Attribute o m apos) (e::es) [] pos) X.env=(do
   let ov<-eval o X.env
   standAt apos.atName
   let (f,first)<-holding [ov] (getMethod ov m pl)
   callWith pos f first (backTo pos (starEach (e::es) X.env)) (backToKw pos (keywordEach [] X.env))):=by rfl):
  PE X (.Call (.Attribute o m apos) (e::es) [] pos) (Ic C m sp ta t):=by
 obtain⟨f,O,F,hm,b⟩:=G;rw[List.any_cons,Bool.or_eq_false_iff] at d;intro j s σ H Q I h;refine W.methodCall_KW (lY (he _ s σ H _ I h) fun u s1 x y v z E=>?_) ht;obtain⟨a,ex,dx,fs,B,l,q⟩:=EC E;subst ex;obtain rfl:u=Value.ref a:=z;refine qs v B c.cl hm l ?_;refine W.callWith_K I.ok.mod.kin hm.kp (lY (ha _ _ s1 σ y _ v q) fun us J vs P i r q2=>⟨i.l9,?_⟩) (bL d.1) (kO d.2);exact CF (vs:= .ref a::vs) F (hr.mono hk) b .nil (Quiet.pass X) i (.cons rfl r) (by simp_all)
theorem M4 [Quiet CX] (he:PE X o ta) (c:cE X.K X.mg x C) (G:uM X.prog X.w X.K X.mg X.base CX C m k ps sp) (hr:cG n X.A) (hk:k<=n) (ht:eval (.Call (.Attribute o m apos) [] [] pos) X.env=(do
   let ov<-eval o X.env
   standAt apos.atName
   let (f,first)<-holding [ov] (getMethod ov m pl)
   callWith pos f first (backTo pos (starEach [] X.env)) (backToKw pos (keywordEach [] X.env))):=by rfl):
  PE X (.Call (.Attribute o m apos) [] [] pos) (Ic C m sp ta we):=by
 obtain⟨f,z,F,hm,b⟩:=G;intro i s σ H Q I h;refine W.methodCall_KW (lY (he _ s σ H _ I h) fun u s1 x B d j y=>?_) ht;obtain⟨a,ex,dx,fs,v,l,q⟩:=EC y;subst ex;obtain rfl:u=Value.ref a:=j;refine qs d v c.cl hm l ?_;exact W.callWith_K0 d.l9 hm.kp (CF (vs:=[.ref a]) F (hr.mono hk) b .nil (Quiet.pass X) d (.cons rfl .nil) q)
theorem rM [Quiet CX] (c:cE X.K X.mg x C) (G:uM X.prog X.w X.K X.mg X.base CX C "__init__" k ps sp) (hr:cG n X.A) (hk:k+1<=n) (hg:Gl X x) (ha:PA X (e::es) t) (a:(x == ("__debug__" : Str))=false:=by decide) (h:(e::es).any isStar=false:=by rfl):PE X (.Call (.Name x p) (e::es) [] pos) (BH C sp [] E0 t):=by
 obtain⟨f,d,F,hm,b⟩:=G;rw[List.any_cons,Bool.or_eq_false_iff] at h;exact FQ ⟨c.mks,hm.at_,hm.fn,c.kp⟩ F (hr.mono hk) hg c.Hs b .nil (Quiet.pass X) ha a (bL h.1) (kO h.2)
theorem M5 [Quiet CX] (c:cE X.K X.mg x C) (G:uM X.prog X.w X.K X.mg X.base CX C "__init__" k ps sp) (hr:cG n X.A) (hk:k+1<=n) (hg:Gl X x) (a:(x == ("__debug__" : Str))=false:=by decide):PE X (.Call (.Name x p) [] [] pos) (BH C sp [] E0 we):=by
 obtain⟨f,d,F,hm,b⟩:=G;exact Jh ⟨c.mks,hm.at_,hm.fn,c.kp⟩ F (hr.mono hk) hg c.Hs b .nil (Quiet.pass X) a
end
def XG (K:W.Frag) (p:Addr) (i:Int) (H:Hp) (Q:VK):Option HO->Prop
 |some (.lst xs)=> ∃v,x_ xs i=some v/\Q v H
 |some (.tup xs)=> ∃v,x_ xs i=some v/\Q v H
 |_=>zE K (.ref p) (.int i) H Q
def IP (K:W.Frag):R2:=fun x y H Q=>match x,y with
 | .ref p,.int i=>XG K p i H Q (H p)
 |x,y=>zE K x y H Q
theorem IM {K:W.Frag}:IP K (.ref p) (.int i) H Q=XG K p i H Q (H p):=rfl
theorem IL {K:W.Frag}:IP K (.str z) (.int i) H Q=zE K (.str z) (.int i) H Q:=rfl
theorem Nl {K:W.Frag}:XG K p i H Q (some (.lst xs))= ∃v,x_ xs i=some v/\Q v H:=rfl
theorem Nk {K:W.Frag}:XG K p i H Q (some (.tup xs))= ∃v,x_ xs i=some v/\Q v H:=rfl
theorem Nm {K:W.Frag} (h:XG K p i H Q (H p)):zE K (.ref p) (.int i) H Q:=by
 unfold XG at h;split at h
 ·rename_i xs e;obtain⟨v,a,b⟩:=h;exact D8 (bO.of e) a b
 ·rename_i xs e;obtain⟨v,a,b⟩:=h;exact yX (n_.of e) a b
 ·exact h
theorem alJ (K:W.Frag) (h:X.K=K):Ej X (IP K):=Ej.imp (agg K h) fun x y H Q h=>by
 unfold IP at h;split at h
 ·exact Nm h
 ·exact h
theorem x6 {i:Nat} {x:α} (h:xs[i]?=some x):x_ xs (i:Int)=some x:=by
 have a:=(List.getElem?_eq_some_iff.mp h).1;unfold x_ L7;rw[if_pos (by lia),if_pos (by lia)];exact h
theorem AF {l:List α}:x_ (a::l) 0=some a:=x6 (i:=0) rfl
theorem Ci {l:List α}:x_ (a::b::l) 1=some b:=x6 (i:=1) rfl
theorem ahp {l:List α}:x_ (a::b::c::l) 2=some c:=x6 (i:=2) rfl
theorem aho {l:List α}:x_ (a::b::c::d::l) 3=some d:=x6 (i:=3) rfl
theorem ahn {l:List α}:x_ (a::b::c::d::e::l) 4=some e:=x6 rfl
theorem ahm {l:List α}:x_ (a::b::c::d::e::f::l) 5=some f:=x6 rfl
def Jx (K:W.Frag) (p:Addr) (H:Hp) (Q:VK):Option HO->Prop
 |some (.lst xs)=>Q (.int xs.length) H
 |some (.tup xs)=>Q (.int xs.length) H
 |_=>xQ K [.ref p] H Q
def FI (K:W.Frag):List V->Hp->VK->Prop:=fun xs H Q=>match xs with
 | [.ref p]=>Jx K p H Q (H p)
 |xs=>xQ K xs H Q
theorem G4 {K:W.Frag}:FI K [.ref p] H Q=Jx K p H Q (H p):=rfl
theorem G3 {K:W.Frag}:FI K [.str z] H Q=xQ K [.str z] H Q:=rfl
theorem Jw {K:W.Frag}:Jx K p H Q (some (.lst xs))=Q (.int xs.length) H:=rfl
theorem Jv {K:W.Frag}:Jx K p H Q (some (.tup xs))=Q (.int xs.length) H:=rfl
theorem bF (K:W.Frag) (h:X.K=K):bP X (.builtin "len") (FI K):=bP.imp (m9 K h) fun xs H Q h=>by
 unfold FI at h;split at h
 ·
  unfold Jx at h;split at h
  ·rename_i xs e;exact⟨xs,.inl (bO.of e),h⟩
  ·rename_i xs e;exact⟨xs,.inr (n_.of e),h⟩
  ·exact h
 ·exact h
def KW (K:W.Frag) (p:Addr) (n:String) (H:Hp) (Q:VK):Option HO->Prop
 |some (.lst _)=>if n = "list" then Q (.bl true) H else qb K [.ref p,.ty n] H Q
 |some (.tup _)=>if n = "tuple" then Q (.bl true) H else qb K [.ref p,.ty n] H Q
 |_=>qb K [.ref p,.ty n] H Q
def BO (K:W.Frag):List V->Hp->VK->Prop:=fun xs H Q=>match xs with
 | [.ref p,.ty n]=>KW K p n H Q (H p)
 |xs=>qb K xs H Q
theorem km (K:W.Frag) (h:X.K=K):bP X (.builtin "isinstance") (BO K):=bP.imp (kj K h) fun xs H Q h=>by
 unfold BO at h;split at h
 ·
  unfold KW at h;split at h
  ·
   rename_i xs e;split at h
   ·rename_i c;subst c;exact Com.KR e h
   ·exact h
  ·
   rename_i xs e;split at h
   ·rename_i c;subst c;exact Com.F8 e h
   ·exact h
  ·exact h
 ·exact h
theorem G8 {K:W.Frag}:BO K [.ref p,.ty n] H Q=KW K p n H Q (H p):=rfl
theorem KU {K:W.Frag}:KW K p "tuple" H Q (some (.tup xs))=Q (.bl true) H:=by simp[KW]
theorem ME {K:W.Frag}:BO K [.int i,.ty n] H Q=qb K [.int i,.ty n] H Q:=rfl
theorem MC {K:W.Frag}:BO K [.str i,.ty n] H Q=qb K [.str i,.ty n] H Q:=rfl
theorem MD {K:W.Frag}:BO K [.non,.ty n] H Q=qb K [.non,.ty n] H Q:=rfl
theorem Xj {N:List V->Prop}:(∃xs,some (HO.lst l)=some (HO.lst xs)/\N xs)=N l:=by
 simp_all
def cj (p:Addr) (H H':Hp):Prop:= ∀b o,H b=some o->b≠p->H' b=some o
theorem cj.refl:cj p H H:=fun _ _ h _=>h
theorem cj.upd {p:Addr} {H:Hp} {o:HO}:cj p H (upd H p o):=fun b x hb a=>by rw[ah a];exact hb
theorem cj.write (h:cj p H H'):cj p H (L2.upd H' p o):=fun b x hb a=>by rw[ah a];exact h b x hb a
theorem cj.new {q:Addr} (h:cj p H H') (d:H' q=none):cj p H (L2.upd H' q o):=fun b x hb a=>by
 rw[ah (ax (h b x hb a) d)];exact h b x hb a
theorem cj.trans (h:cj p H H1) (d:cj p H1 H2):cj p H H2:=fun b x hb a=>d b x (h b x hb a) a
theorem cj.same (h:cj p H H1) (d:a7 H1 H2):cj p H H2:=fun b x hb a=>d b x (h b x hb a)
end L2
namespace MeterM
noncomputable def mn (a b:Int):Int:=if b<a then b else a
def Inb (m:Int) (s:Int×Int):Prop:=1<=s.1/\s.1<=m/\0<=s.2/\s.2<s.1
end MeterM
namespace WaysM
end WaysM
namespace L2
open PySem PySem.Spec PyProof.Rows
end L2
namespace L2
end L2
namespace WaysI
open PySem L2
end WaysI
namespace L2
open PySem PySem.Spec PyProof.Rows
theorem z3: ∀{ns:List Int} {a:List Value},Vals (ns.map V.int) a->IntsAre a ns
 | [],_,.nil=> .nil
 |n::ns,_,.cons r rr=>by
  obtain⟨t,rfl⟩:=r;exact .cons n t (z3 rr)
def IJ (K:W.Frag):List V->Hp->VK->Prop:=fun xs H Q=>match xs with
 | [.int i,.int j]=>Q (.int (if i<j then j else i)) H
 | [.ref p]=> ∃ns:List Int,bO K H p (ns.map V.int)/\0<ns.length/\∀M,M∈ns->(∀a,a∈ns->a<=M)->Q (.int M) H
 |_=>False
theorem xF (K:W.Frag) (C:X.K=K) (hc:X.calm=true):bP X (.builtin "max") (IJ K):=by
 subst C;intro n s σ H xs us Q I rs q;unfold IJ at q;split at q
 ·exact Cb hc _ s σ H _ us Q I rs q
 ·
  obtain⟨u,rfl,x⟩:=vals1 rs;cases x;obtain⟨ns,F,G,q⟩:=q;obtain⟨B,r,pl,J⟩:=I.list F;have m:=z3 r;have i:=pl.isList;obtain⟨xs,e⟩:=m.allInts.items;have d:ns=xs.toList.map (·.1):=by rw[<-m.numsOf,<-nums_intItems,<-e]
  have hsz:0<xs.size:=by
   simp_all
  rw[e] at i;refine max_intList (I.ok.hd hc) i hsz fun v h' tk z hk=>?_;obtain⟨t,rfl⟩:=intItems_at z;obtain⟨h1,y⟩:=argBest_gt (numAt xs) (xs.size - 1);refine⟨.int _,H,I.kept hk,⟨t,rfl⟩,q _ ?_ fun a ha=>?_⟩
  ·rw[d,numAt_eq];exact getD_mem (by rw[List.length_map,Array.length_toList];lia)
  ·
   rw[d] at ha;obtain⟨j,E,rfl⟩:=mem_getD ha;rw[List.length_map,Array.length_toList] at E;rw[<-numAt_eq];exact y j (by lia)
 ·trivial
theorem G0 {K:W.Frag}:IJ K [.ref p] H Q= ∃ns:List Int,bO K H p (ns.map V.int)/\0<ns.length/\∀M,M∈ns->(∀a,a∈ns->a<=M)->Q (.int M) H:=rfl
noncomputable def Ite (a:Addr):It:=
 ⟨fun i H=> ∃xs x,H a=some (.lst xs)/\xs[i]?=some x,fun i H v H'=> ∃p x,(∀xs,H a=some (.lst xs)->xs[i]?=some x)/\H p=none/\v = .ref p/\H'=upd H p (.tup [.int i,x]),fun i H=> ∃xs,H a=some (.lst xs)/\xs.length<=i⟩
section
theorem Inv.tupd {ch:List Addr} (I:Inv X pins σ H s) (k: ∀b o,b ∉ ch->s.heap.get? b=some o->h'.get? b=some o) (f: ∀b∈ch,xK X pins H b) (d:s.heap.objs.size<=p) (new:jD X.prog X.w (upd H p (.tup xs)) h' p (.tup xs)):Inv X pins σ (upd H p (.tup xs)) {s with heap:=h',toks:=t'}:=by
 have hn:=I.hok.fresh d;have a: ∀b u,H b=some u->b ∉ ch:=fun b u q z=>by rw[(f b z).1] at q;cases q
 refine I.step (g':=s.gens) (d':=s.drawn) (ch:=ch) (fun b hb=>?_) (fun b o _ _ hc q _=>k b o hc q) (fun b o _ _ hc q _=>⟨o.slots,k b o hc q⟩)
  (fun b o _ q n=>by rw[ah (Nat.ne_of_lt (Nat.lt_of_lt_of_le (Heap.lt_size q) d))];exact n)
  (fun b o hc q=>⟨o,k b o hc q⟩) (fun b xs q=>by rw[ah (ax q hn)];exact q) (fun b u xs q=>by rw[ah (ax q hn)];exact q) (fun b E q=>⟨#[],by rw[ah (ax q hn),q];simp⟩) (fun m hm=>?_) (fun b u q=>?_) I.bare
 ·
  obtain⟨F,y,G,i,B,C⟩:=f b hb;exact⟨i,y,B,C⟩
 ·
  obtain⟨o,x,j,ho,r⟩:=hm;exact⟨o,x,j,k _ o (fun z=>(f _ z).2.1 rfl) ho,r⟩
 ·
  by_cases hb:b=p
  ·subst hb;rw[aa] at q;cases q;exact new
  ·
   rw[ah hb] at q;refine(I.hok b u q).stay (fun c v hc q2=>?_) (fun c q=>by rw[ah (ax q hn)];exact q) fun c xs q=>by rw[ah (ax q hn)];exact q
   rcases hc with z|z
   ·subst z;exact k _ v (a _ u q) q2
   ·exact k c v (a c _ z) q2
theorem Inv.Mf {ch:List Addr} (I:Inv X pins σ H s) (k: ∀b o,b ∉ ch->s.heap.get? b=some o->h'.get? b=some o) (f: ∀b∈ch,xK X pins H b):Inv X pins σ H {s with heap:=h',toks:=t'}:=by
 have a: ∀b u,H b=some u->b ∉ ch:=fun b u q z=>by rw[(f b z).1] at q;cases q
 refine I.step (g':=s.gens) (d':=s.drawn) (ch:=ch) (fun b hb=>?_) (fun b o _ _ hc q _=>k b o hc q) (fun b o _ _ hc q _=>⟨o.slots,k b o hc q⟩)
  (fun b o _ q n=>n) (fun b o hc q=>⟨o,k b o hc q⟩) (fun b xs q=>q) (fun b u xs q=>q) (fun b C q=>⟨#[],by rw[q];simp⟩) (fun m hm=>?_) (fun b u q=>?_) I.bare
 ·
  obtain⟨E,x,F,d,y,B⟩:=f b hb;exact⟨d,x,y,B⟩
 ·
  obtain⟨o,j,i,ho,r⟩:=hm;exact⟨o,j,i,k _ o (fun z=>(f _ z).2.1 rfl) ho,r⟩
 ·
  refine(I.hok b u q).stay (fun c v hc q2=>?_) (fun c q=>q) fun c xs q=>q;rcases hc with z|z
  ·subst z;exact k _ v (a _ u q) q2
  ·exact k c v (a c _ z) q2
end
theorem GI {P:Program} {w:World} {K:W.Frag} {elts:List Expr} {x1} {pos:Pos} (a e it:Addr) (ne:e≠it):Turn P w K (.Tuple elts x1 pos) (Ite a) [e,it] e (fun i h=>(∃old,IsEnum h e it ((i:Nat):Int) old)/\h.IsListIter it a i) where
 mem:=by simp
 obj:=fun i h st b hb=>by
  obtain⟨⟨old,he⟩,⟨o,ho,c,d⟩⟩:=st;have q:b=e\/b=it:=by simpa using hb
  rcases q with rfl|rfl
  ·exact⟨_,he,fun v z=>by cases z⟩
  ·exact⟨o,ho,fun v z=>by rw[d] at z;cases z⟩
 keep:=fun i h h' st k=>⟨st.1.elim fun old he=>⟨old,k e (by simp) _ he⟩,st.2.at fun o q=>k it (by simp) o q⟩
 item:=by
  intro X hP hw O hc i m s σ H E I hf st hg;subst hP hw O;obtain⟨⟨old,he⟩,hit⟩:=st;obtain⟨xs,x,C,hx⟩:=hg;obtain⟨z,G,n,r,U⟩:=I.hok a _ C;obtain⟨u,hu,ru⟩:=r.get hx;have fe:=hf e (by simp);have fi:=hf it (by simp);have y:e<s.heap.objs.size:=Heap.lt_size he;have Z:it<s.heap.objs.size:=by obtain⟨o,ho,_⟩:=hit;exact Heap.lt_size ho
  have hp:=I.hok.fresh (Nat.le_refl s.heap.objs.size);refine wpAny_pyNext_enum_item he hit ⟨_,U,rfl,n,rfl⟩ (x:=u) (by simpa using hu) ne fun h1 Y B ht1 hz1 F=>⟨_,rfl,wpAny_letOwnedTupleGo_enum Y fun h2 Q j=>?_⟩;replace j:Heap.SameBut e h1 h2:=j;have J:h2.get? s.heap.objs.size=some {cls:= .type "tuple",data:= .seq #[.int i s.toks,u]}:=(j.2 _ (Nat.ne_of_gt y)).trans ht1;refine⟨.ref s.heap.objs.size,upd H s.heap.objs.size (.tup [.int i,x]),?_,rfl,⟨_,x,fun ys hy=>by rw[C] at hy;cases hy;exact hx,hp,rfl,rfl⟩,⟨⟨u,?_⟩,?_⟩,fun b hb=>?_⟩
  ·
   refine I.tupd (s:=s) (t':=s.toks+1) (ch:=[e,it]) (fun b o bn q=>(j.2 b (fun z=>bn (by simp[z]))).trans (F b o (fun z=>bn (by simp[z])) (fun z=>bn (by simp[z])) q)) hf (Nat.le_refl _) ⟨by show 2<=sizeLine;rw[sizeLine_eq];decide,[.int i s.toks,u],.cons ⟨_,rfl⟩ (.cons ru .nil),?_⟩;exact⟨_,J,rfl,_,rfl⟩
  ·
   have:((i+1:Nat):Int)=(i:Int)+1:=by push_cast;rfl
   rw[this];exact Q
  ·exact B.extBut j.extBut (Ne.symm ne)
  ·
   have q:b=e\/b=it:=by simpa using hb
   rcases q with rfl|rfl
   ·rw[ah (Nat.ne_of_lt y)];exact fe.1
   ·rw[ah (Nat.ne_of_lt Z)];exact fi.1
 done:=by
  intro X hP hw O hc i m s σ H E I hf st hg;subst hP hw O;obtain⟨⟨old,he⟩,hit⟩:=st;obtain⟨xs,C,hx⟩:=hg;obtain⟨z,G,n,r,U⟩:=I.hok a _ C;have hl:=r.length;obtain⟨f0,f1,f2,f3,f4,f5⟩:=hf it (by simp);exact wpAny_pyNext_enum_end (I.ok.hd hc) he hit ⟨_,U,rfl,n,rfl⟩ (by simp;lia) fun h' eb=>⟨rfl,I.turned (t':=s.toks) (fun b o hb q=>eb b o hb q) f0 f1 f3 f4 f5⟩
 self:=fun _ _ _ _ _ st h=>st.1.elim fun old he=>wpAny_pyIter_enum he h
theorem boot_enumerate:bootBuiltins "enumerate" = some (.type "enumerate"):=by decide+kernel
def XI (x:V) (d:Hp) (R:It->Hp->Prop):Prop:=match x with
 | .ref a=> ∃xs,d a=some (.lst xs)/\R (Ite a) d
 |_=>False
def F6 (a:TA):TI:=fun σ H R=>a σ H fun vs d=>match vs with
 | [x]=>XI x d R
 |_=>False
section
theorem CQ (hg:Gl X "enumerate") (hm:X.mg "enumerate" = none) (ha:PA X [a] ta) (y:starEach [a] X.env= [(false,eval a X.env)]:=by rfl):PI X (.Tuple elts x1 tpos) (.Call (.Name "enumerate" p) [a] [] pos) (F6 ta):=by
 intro i s σ H R I h;refine Call_ (t9 I hg hm boot_enumerate (PyProof.Rows.callWith_type1 (lY (ha pos i s σ H _ I h) fun us s1 vs j d C q1=>?_) y rfl));cases C with
 |nil=>exact q1.elim
 | @cons x u xs us r m=>
  cases m with
  |cons _ _=>exact q1.elim
  |nil=>
   replace q1:XI x j R:=q1;unfold XI at q1;split at q1
   ·
    rename_i b;obtain⟨E,hb,q⟩:=q1;cases r;obtain⟨z,v,n,G,B⟩:=d.hok b _ hb;refine call_enumerate_1 B fun h' he hit F hk=>?_;refine wpAny_pyIter_enum he ?_;refine⟨_,[s1.heap.objs.size+1,s1.heap.objs.size],_,_,j,rfl,d.kept (t':=s1.toks) fun b o e=>hk b o e,GI b (s1.heap.objs.size+1) s1.heap.objs.size (Nat.succ_ne_self _),⟨⟨_,he⟩,hit⟩,fun c hc=>?_,q⟩;have e:c=s1.heap.objs.size+1\/c=s1.heap.objs.size:=by simpa using hc
    rcases e with rfl|rfl
    ·exact d.Dh (Nat.le_succ _) (d.hok.fresh (Nat.le_succ _))
    ·exact d.Dh (Nat.le_refl _) (d.hok.fresh (Nat.le_refl _))
   ·exact q1.elim
end
section
theorem GL {σ:St} {H:Hp} {g:TG} {d:TS} {D:Ends} {a:TA}:Mj (F6 a) g d D σ H=a σ H fun vs j=>match vs with
 | [x]=>XI x j fun J i=>forR J g d D σ i
 |_=>False:=rfl
theorem Gp (E:H a=some (.lst xs)) (Pv:Nat->St->Hp->Prop) (h0:Pv 0 σ H) (j: ∀i σ H,i<=xs.length->Pv i σ H->H a=some (.lst xs)) (B: ∀i x p σ H,xs[i]?=some x->Pv i σ H->H p=none->g (.ref p) σ (upd H p (.tup [.int i,x])) fun s u=>tb {D with nx:=Pv (i+1),ct:=Pv (i+1),bk:=D.nx} s u) (hd: ∀σ H,Pv xs.length σ H->D.nx σ H):
  XI (.ref a) H fun J u=>forR J g tb D σ u:=by
 refine⟨xs,E,fun i m σ H=>m=xs.length - i/\i<=xs.length/\Pv i σ H,⟨_,rfl,Nat.zero_le _,h0⟩,?_⟩;rintro i m σ H ⟨rfl,n,p⟩;by_cases d:i<xs.length
 ·
  refine .inr ⟨⟨xs,_,j i σ H n p,List.getElem?_eq_getElem d⟩,Pv (i+1),fun z H' F=>⟨xs.length - (i+1),by lia,rfl,d,F⟩,fun v H' y=>?_⟩;obtain⟨q,x,hx,C,rfl,rfl⟩:=y;exact B i x q σ H (hx xs (j i σ H n p)) p C
 ·
  have e:i=xs.length:=by lia
  subst e;exact .inl ⟨⟨xs,j _ σ H n p,Nat.le_refl _⟩,hd σ H p⟩
end
section
structure QE (X:Cx) (e:Expr) (t:TE):Prop where
 h:PE X e t
structure QS (X:Cx) (st:Stmt) (t:TS):Prop where
 h:PS X st t
structure XM (X:Cx) (l:List Stmt) (t:TS):Prop where
 h:ya X l t
theorem CK {st:Stmt} (h1:QS X st t):XM X [st] t:=⟨aj h1.h⟩
theorem fZ {st:Stmt} {rest:List Stmt} (h1:QS X st t) (a:XM X rest u):XM X (st::rest) (Uw t u):=⟨ae h1.h a.h⟩
theorem FL (a:X.N.Nodup) (d:X.N[i]?=some x) (hx:Loc X.env.scope x) (he:QE X e te) (h:o3 e=false:=by rfl) (hf:X.fn x=true\/X.env.scope.names.lookup x=some .local:=by first|exact .inl rfl|exact .inr rfl|assumption):
  QS X (.Assign [.Name x pos'] e pos) (DF te (pP i)):=⟨FN a d hx he.h h hf⟩
end
noncomputable def Itz (a b:Addr):It:=
  ⟨
   fun i H=> ∃xs d x y,H a=some (.lst xs)/\H b=some (.lst d)/\xs[i]?=some x/\d[i]?=some y,
   fun i H v H'=> ∃p x y,(∀xs,H a=some (.lst xs)->xs[i]?=some x)/\(∀d,H b=some (.lst d)->d[i]?=some y)/\H p=none/\v = .ref p/\H'=upd H p (.tup [x,y]),
   fun i H=> ∃xs d,H a=some (.lst xs)/\H b=some (.lst d)/\(xs.length<=i\/d.length<=i)⟩
def TnZ (z TI TO d i2 a b:Addr) (i:Nat) (h:Heap):Prop:=IsZip h z TI TO .none/\IsPair h TI (.ref d) (.ref i2)/\(∃u v,IsPair h TO u v)/\h.IsListIter d a i/\h.IsListIter i2 b i
theorem Ia {P:Program} {w:World} {K:W.Frag} {elts:List Expr} {x1} {pos:Pos} (a b z TI TO C i2:Addr) (D:ZipApart z TI TO C i2 a b):Turn P w K (.Tuple elts x1 pos) (Itz a b) [z,TI,TO,C,i2] z (TnZ z TI TO C i2 a b) where
 mem:=by simp
 obj:=fun i h st c hb=>by
  obtain⟨G,j,⟨u,v,m⟩,⟨o1,ho1,c1,d1⟩,⟨o2,ho2,c2,d2⟩⟩:=st;have q:c=z\/c=TI\/c=TO\/c=C\/c=i2:=by simpa using hb
  rcases q with rfl|rfl|rfl|rfl|rfl
  ·exact⟨_,G,fun v z=>by cases z⟩
  ·exact⟨_,j,fun v z=>by cases z⟩
  ·exact⟨_,m,fun v z=>by cases z⟩
  ·exact⟨o1,ho1,fun v z=>by rw[d1] at z;cases z⟩
  ·exact⟨o2,ho2,fun v z=>by rw[d2] at z;cases z⟩
 keep:=fun i h h' st k=>by
  obtain⟨G,j,⟨u,v,m⟩,h1,Q⟩:=st;exact⟨k z (by simp) _ G,k TI (by simp) _ j,⟨u,v,k TO (by simp) _ m⟩,h1.at fun o q=>k C (by simp) o q,Q.at fun o q=>k i2 (by simp) o q⟩
 item:=by
  intro X hP hw hK hc i Y s σ H E I hf st hg;subst hP hw hK;obtain⟨G,j,⟨u,v,m⟩,h1,Q⟩:=st;obtain⟨xs,ys,x,y,F,B,hx,hy⟩:=hg;obtain⟨_,its1,n1,r1,J⟩:=I.hok a _ F;obtain⟨_,Z,n2,r2,O⟩:=I.hok b _ B;obtain⟨u1,hu1,ru1⟩:=r1.get hx;obtain⟨u2,hu2,ru2⟩:=r2.get hy;have hp:=I.hok.fresh (Nat.le_refl s.heap.objs.size);have zs:z<s.heap.objs.size:=Heap.lt_size G;refine wpAny_pyNext_zip_item D G j m h1 Q ⟨_,J,rfl,n1,rfl⟩ ⟨_,O,rfl,n2,rfl⟩ (x:=u1) (y:=u2) (by simpa using hu1) (by simpa using hu2) fun h' hz' hTO' h1' h2' hT' hs' hk'=>⟨_,rfl,wpAny_letOwnedTupleGo_zip hz' fun h'' hz'' d=>?_⟩;replace d:Heap.SameBut z h' h'':=d;have ht2:h''.get? s.heap.objs.size=some {cls:= .type "tuple",data:= .seq #[u1,u2]}:=(d.2 _ (Nat.ne_of_gt zs)).trans hT';have U:IsPair h' TI (.ref C) (.ref i2):=hk' _ _ D.TIz D.TITO D.TIi1 D.TIi2 j;refine⟨.ref s.heap.objs.size,upd H s.heap.objs.size (.tup [x,y]),?_,rfl,⟨_,x,y,fun zs n=>by rw[F] at n;cases n;exact hx,fun zs n=>by rw[B] at n;cases n;exact hy,hp,rfl,rfl⟩,⟨hz'',(d.2 _ D.TIz).trans U,⟨_,_,(d.2 _ D.TOz).trans hTO'⟩,h1'.extBut d.extBut D.i1z,h2'.extBut d.extBut D.i2z⟩,fun c hb=>?_⟩
  ·
   refine I.tupd (s:=s) (t':=s.toks) (ch:=[z,TI,TO,C,i2]) (fun c o bn q=>(d.2 c (fun e=>bn (by simp[e]))).trans (hk' c o (fun e=>bn (by simp[e])) (fun e=>bn (by simp[e])) (fun e=>bn (by simp[e])) (fun e=>bn (by simp[e])) q)) hf (Nat.le_refl _) ⟨by show 2<=sizeLine;rw[sizeLine_eq];decide,[u1,u2],.cons ru1 (.cons ru2 .nil),?_⟩;exact⟨_,ht2,rfl,_,rfl⟩
  ·
   have fo:=(hf c hb).1;have cs:c<s.heap.objs.size:=by
    have q:c=z\/c=TI\/c=TO\/c=C\/c=i2:=by simpa using hb
    obtain⟨_,q1,_⟩:=h1;obtain⟨_,q2,_⟩:=Q;rcases q with rfl|rfl|rfl|rfl|rfl
    ·exact zs
    ·exact Heap.lt_size j
    ·exact Heap.lt_size m
    ·exact Heap.lt_size q1
    ·exact Heap.lt_size q2
   rw[ah (Nat.ne_of_lt cs)];exact fo
 done:=by
  intro X hP hw hK hc i Y s σ H E I hf st hg;subst hP hw hK;obtain⟨G,j,⟨u,v,m⟩,h1,Q⟩:=st;obtain⟨xs,ys,F,B,hlen⟩:=hg;obtain⟨_,its1,n1,r1,J⟩:=I.hok a _ F;obtain⟨_,Z,n2,r2,O⟩:=I.hok b _ B;have l1:=r1.length;have l2:=r2.length;refine wpAny_pyNext_zip_end (I.ok.hd hc) D G j m h1 Q ⟨_,J,rfl,n1,rfl⟩ ⟨_,O,rfl,n2,rfl⟩ ?_ fun h' hk=>⟨rfl,I.Mf (t':=s.toks) (ch:=[z,TI,TO,C,i2]) (fun c o bn q=>hk c o (fun e=>bn (by simp[e])) (fun e=>bn (by simp[e])) (fun e=>bn (by simp[e])) (fun e=>bn (by simp[e])) q) hf⟩;rcases hlen with q|q
  ·exact .inl (by simp;lia)
  ·exact .inr (by simp;lia)
 self:=fun _ _ _ _ _ st h=>wpAny_pyIter_zip st.1 h
theorem boot_zip:bootBuiltins "zip" = some (.type "zip"):=by decide+kernel
def znR (x y:V) (d:Hp) (R:It->Hp->Prop):Prop:=match x,y with
 | .ref a,.ref b=> ∃xs i,d a=some (.lst xs)/\d b=some (.lst i)/\R (Itz a b) d
 |_,_=>False
def Vo (a:TA):TI:=fun σ H R=>a σ H fun vs d=>match vs with
 | [x,y]=>znR x y d R
 |_=>False
section
theorem UO (hg:Gl X "zip") (hm:X.mg "zip" = none) (ha:PA X [a,b] ta) (Y:starEach [a,b] X.env=(false,eval a X.env)::starEach [b] X.env:=by rfl) (E:starEach [b] X.env= [(false,eval b X.env)]:=by rfl):PI X (.Tuple elts x1 tpos) (.Call (.Name "zip" p) [a,b] [] pos) (Vo ta):=by
 intro i s σ H R I h;refine Call_ (t9 I hg hm boot_zip (PyProof.Rows.callWith_type1 (lY (ha pos i s σ H _ I h) fun us s1 vs O j r1 q1=>?_) Y (by rw[E];rfl)));cases r1 with
 |nil=>exact q1.elim
 | @cons x u xs us r U=>
  cases U with
  |nil=>exact q1.elim
  | @cons y v ys vs r' F=>
   cases F with
   |cons _ _=>exact q1.elim
   |nil=>
    replace q1:znR x y O R:=q1;unfold znR at q1;split at q1
    ·
     rename_i c d;obtain⟨as,bs,hc,hd,q⟩:=q1;cases r;cases r';obtain⟨_,J,n1,rv1,n⟩:=j.hok c _ hc;obtain⟨_,Q,Z,W,m⟩:=j.hok d _ hd;refine call_zip_2 ⟨_,n,rfl,n1,rfl⟩ ⟨_,m,rfl,Z,rfl⟩ fun h' P G B C z hsz hk=>?_;refine wpAny_pyIter_zip P ?_;refine⟨_,[s1.heap.objs.size+4,s1.heap.objs.size+2,s1.heap.objs.size+3,s1.heap.objs.size,s1.heap.objs.size+1],_,_,O,rfl,j.kept (t':=s1.toks) fun b o e=>hk b o e,Ia c d _ _ _ _ _ (zipApart_new (Heap.lt_size n) (Heap.lt_size m)),⟨P,G,⟨_,_,B⟩,C,z⟩,fun e he=>?_,q⟩;have ee:e=s1.heap.objs.size+4\/e=s1.heap.objs.size+2\/e=s1.heap.objs.size+3\/e=s1.heap.objs.size\/e=s1.heap.objs.size+1:=by simpa using he
     have le:s1.heap.objs.size<=e:=by
      rcases ee with rfl|rfl|rfl|rfl|rfl
      ·exact Nat.le_add_right _ _
      ·exact Nat.le_add_right _ _
      ·exact Nat.le_add_right _ _
      ·exact Nat.le_refl _
      ·exact Nat.le_add_right _ _
     exact j.Dh le (j.hok.fresh le)
    ·exact q1.elim
end
section
variable {nv:Nat} {ix:List Nat} {g:TG} {tt:TT} {te:TE} {σ:St} {H:Hp} {ta:TA} {Q:VK}
theorem Es:xN nv ix (F6 ta) g tt te σ H Q=ta σ H fun vs i=>match vs with
 | [x]=>XI x i fun J d=>oF J g tt te (jL nv ix σ) d fun a H'=>a.length<=sizeLine/\∀l,H' l=none->Q (.ref l) (upd H' l (.lst a))
 |_=>False:=by
 unfold xN F6;rfl
theorem GN:xN nv ix (Vo ta) g tt te σ H Q=ta σ H fun vs i=>match vs with
 | [x,y]=>znR x y i fun J d=>oF J g tt te (jL nv ix σ) d fun a H'=>a.length<=sizeLine/\∀l,H' l=none->Q (.ref l) (upd H' l (.lst a))
 |_=>False:=by
 unfold xN Vo;rfl
theorem Ff:jL 2 ix σ=none::none::ix.map fun i=>(σ[i]?).join:=rfl
end
section
theorem LP (Pv:Nat->List V->St->Hp->Prop) (h0:Pv 0 [] σ H) (P:n<=sizeLine) (I: ∀i a σ H,Pv i a σ H->a.length<=i) (go: ∀i a σ H,i<n->Pv i a σ H->J.go i H) (stop: ∀a σ H,Pv n a σ H->J.stop n H) (step: ∀i a σ H x d,i<n->Pv i a σ H->J.yld i H x d->g x σ d fun j F=>tt j F fun b z=>if b=true then te j z fun y E=>Pv (i+1) (a++ [y]) j E else Pv (i+1) a j z) (q: ∀a σ H,Pv n a σ H->Q a H):oF J g tt te σ H Q:=by
 refine⟨fun i m a s H'=>i<=n/\m=n - i/\Pv i a s H',⟨n,Nat.zero_le _,rfl,h0⟩,?_⟩;rintro i m a s H' ⟨O,rfl,v⟩;by_cases e:i=n
 ·
  subst e;exact .inl ⟨stop _ _ _ v,q _ _ _ v⟩
 ·
  have u:i<n:=by lia
  refine .inr ⟨go i _ _ _ u v,by grind,_,fun C B d G=>⟨_,by lia,by lia,rfl,G⟩,fun x d y=>step i a _ H' x _ u v y⟩
theorem vW {K:W.Frag} (E:bO K H a xs) (C:xs.length<=sizeLine) (Pv:Nat->List V->St->Hp->Prop) (h0:Pv 0 [] σ H) (u: ∀i d σ H,Pv i d σ H->d.length<=i) (hk: ∀i d σ H,Pv i d σ H->bO K H a xs) (step: ∀(i:Nat) x d σ H,xs[i]?=some x->Pv i d σ H->g x σ H fun j n=>tt j n fun b s=>if b=true then te j s fun y v=>Pv (i+1) (d++ [y]) j v else Pv (i+1) d j s) (q: ∀d σ H,Pv xs.length d σ H->Q d H):uV K (.ref a) H fun J n=>oF J g tt te σ n Q:=by
 refine .inl ⟨xs,E,LP Pv h0 C u (fun i d σ H z m=>⟨xs,xs[i],hk _ _ _ _ m,by simp_all⟩) (fun d σ H m=>⟨xs,hk _ _ _ _ m,Nat.le_refl _⟩) (fun i d σ H x B z m y=>?_) q⟩;obtain⟨e,hx⟩:=y;subst e;exact step i x d σ _ (hx xs (hk _ _ _ _ m)) m
end
def HV (h:Heap) (e:Addr) (cls:Value) (dx i:Option Addr):Prop:=
 ∃oe vs,h.get? e=some oe/\oe.cls=cls/\oe.dict=dx/\oe.data = .fields vs/\1<vs.size/\(match i with
  |none=>vs[1]?=some .none
  |some T=>vs[1]?=some (.ref T)/\T≠e/\∃d a,h.get? T=some d/\d.data = .fields a/\a[3]?=some .none)
structure Uk (S:List Addr) (e:Addr) (tb:Option Addr) (h h':Heap):Prop where
 keep: ∀b o,b ∉ S->b≠e->(∀T,tb=some T->b≠T)->h.get? b=some o->h'.get? b=some o
 slot: ∀b o,b∈S->h.get? b=some o->∃sl,h'.get? b=some {o with slots:=sl}
 there: ∀b o,h.get? b=some o->∃o',h'.get? b=some o'
section
theorem sA (f:Array Value->Array Value) (o:Obj):(Obj.mapFields f o).dict=o.dict:=by
 unfold Obj.mapFields;split<;>rfl
noncomputable abbrev GS (top:Value) (L:Addr) (a:List Value):Obj:={cls:= .type "traceback",dict:=none,data:= .fields ([top,.ref L,.none,rawInt L,.none]++(if a.isEmpty then List.replicate 6 Value.none else a)).toArray}
theorem Gs {top:Value} (j:A.frames=some (env::outer)) (F:s.heap.FunFrames base (env::outer)) (hf:env.frame=some L) (he:s.heap.get? e=some oe) (hd:oe.data = .fields vs) (hsz:1<vs.size) (h: ∀h',HV h' e oe.cls oe.dict (some s.heap.objs.size)->Uk ((env::outer).filterMap (·.frame)) e none s.heap h'->Q () {s with heap:=h'}):
  wpAny M A (do let a<-frameOf env;let pl<-entryPlaceOf L had;let b<-EntryCells.newEntry top a .none (rawInt L) .none pl;setField (.ref e) 1 b) (fun _ P=>wpAny M A (setFlight (.ref e) none) Q E P) E s:=by
 have out:e ∉ (env::outer).filterMap _:=fun hm=>by
  obtain⟨_,U,v,no⟩:=F.mem hm;cases he.symm.trans v;exact no vs hd
 refine wpAny_bind (wpAny_frameOf_fun j F hf fun k i=>wpAny_bind (wpAny_entryPlaceOf fun m u=>?_));refine wpAny_bind (wpAny_newObj_type ?_ (u.sizeOk5 _ _ _ _ _));have G:=(i.2.1 e out).trans he;have d:=Nat.ne_of_gt (Heap.lt_size G);have C:=i.1;have n:=Obj.data_mapFields hd (·.setIfInBounds 1 (Value.ref k.objs.size));have I:=Heap.get?_push_of_some (GS top L m) G;have B:=Heap.get?_update_self _ I (Obj.isFreed_of_fields n);have J:=(Heap.get?_update_other (k.push (GS top L m)) (Obj.mapFields (·.setIfInBounds 1 (Value.ref k.objs.size))) (Ne.symm d)).trans (Heap.get?_push_size k rfl);refine wpAny_setField I hd hsz ?_;refine wpAny_bind (wpAny_field B n (x:= .ref k.objs.size) (by simp[hsz]) ?_);have O:=Heap.get?_update_self (Obj.mapFields (·.setIfInBounds 3 ((none).elim Value.none fun f=>rawInt f))) J (Obj.isFreed_of_fields (Obj.data_mapFields rfl _));refine wpAny_setField J rfl (by simp_all) (h _ ?_ ?_)
 ·
  rw[<-C];refine⟨_,_,?_,Obj.cls_mapFields _ _,sA _ _,n,by simp[hsz],by simp[hsz],d,_,_,O,rfl,?_⟩
  ·rw[Heap.get?_update_other _ _ d];exact B
  ·rfl
 ·have keep: ∀b o,b≠e->k.get? b=some o->(((k.push (GS top L m)).update e (Obj.mapFields (·.setIfInBounds 1 (Value.ref k.objs.size)))).update _ (Obj.mapFields (·.setIfInBounds 3 ((none).elim Value.none fun f=>rawInt f)))).get? b=some o:=fun b o ne hb=>by
   rw[Heap.get?_update_other _ _ (Nat.ne_of_gt (Heap.lt_size hb)),Heap.get?_update_other _ _ (Ne.symm ne)];exact Heap.get?_push_of_some _ hb
  refine⟨fun b o y ne _ hb=>keep b o ne ((i.2.1 b y).trans hb),fun b o y hb=>?_,fun b o hb=>?_⟩
  ·
   obtain⟨H,q⟩:=i.2.2 b o hb;exact⟨H,keep b _ (fun z=>out (z▸y)) q⟩
  ·
   by_cases z:b=e
   ·
    subst z;rw[Heap.get?_update_other _ _ d];exact⟨_,B⟩
   ·
    obtain⟨H,q⟩:=i.2.2 b o hb;exact⟨_,keep b _ z q⟩
theorem Jn (a:A.frames=some (env::outer)) (i:s.heap.FunFrames base (env::outer)) (hf:env.frame=some L) (hx:HV s.heap e cls dx n) (h: ∀h',HV h' e cls dx (some s.heap.objs.size)->Uk ((env::outer).filterMap (·.frame)) e n s.heap h'->Q () {s with heap:=h'}):wpAny M A (noteFrame (.ref e) env) (fun _ y=>wpAny M A (setFlight (.ref e) none) Q E y) E s:=by
 obtain⟨oe,vs,he,rfl,rfl,hd,hsz,ht⟩:=hx;unfold noteFrame;simp only[hf];cases n with
 |none=>
  refine wpAny_bind (wpAny_field he hd ht ?_);exact Gs a i hf he hd hsz h
 |some T=>
  obtain⟨h1,ne,G,F,j,dT,u⟩:=ht;have apart: ∀b o,s.heap.get? b=some o->(∀ws,o.data≠ .fields ws)->b≠T:=fun b o hb no z=>by
   simp_all
  have out:T ∉ (env::outer).filterMap _:=fun hm=>by
   obtain⟨_,v,m,no⟩:=i.mem hm;exact apart T v m no rfl
  refine wpAny_bind (wpAny_field he hd h1 ?_);refine wpAny_bind (wpAny_field j dT u ?_);refine wpAny_bind (wpAny_setField j dT (Array.getElem?_eq_some_iff.mp u).1 ?_);have oth: ∀b,b≠T->(s.heap.update T (Obj.mapFields (·.setIfInBounds 3 Value.none))).get? b=s.heap.get? b:=fun b z=>Heap.get?_update_other _ _ (Ne.symm z);have self:=Heap.get?_update_self (Obj.mapFields (·.setIfInBounds 3 Value.none)) j (Obj.isFreed_of_fields (Obj.data_mapFields dT _));have C:=i.of_keeps fun b o hb no=>⟨o,(oth b (apart b o hb no)).trans hb,rfl⟩;refine Gs a C hf ((oth e (Ne.symm ne)).trans he) hd hsz fun h' x k=>?_;have sz:(s.heap.update T (Obj.mapFields (·.setIfInBounds 3 Value.none))).objs.size=s.heap.objs.size:=Heap.size_update ..;rw[sz] at x;refine h h' x ⟨fun b o d z B hb=>k.keep b o d z (fun _ q=>by cases q) ((oth b (B T rfl)).trans hb),fun b o d hb=>k.slot b o d ((oth b (fun q=>out (q▸d))).trans hb),fun b o hb=>?_⟩;by_cases q:b=T
  ·exact q▸k.there _ _ self
  ·exact k.there b o ((oth b q).trans hb)
theorem Hv (a:A.frames=some (env::outer)) (d:s.heap.FunFrames base (env::outer)) (hf:env.frame=some L) (hx:HV s.heap e cls dx tb) (h: ∀h',HV h' e cls dx (some s.heap.objs.size)->Uk ((env::outer).filterMap (·.frame)) e tb s.heap h'->Q () {s with heap:=h'}):wpAny M A (leaving env (.ref e)) Q E s:=wpAny_bind (Jn a d hf hx h)
end
def HY (P:Program) (w:World):Em:=fun outer H s E e a=> ∃d cls dx T H',e = .ref d/\a.os=s.os/\AllBare a.gens/\Un (frs outer) [] H H' s.heap a.heap/\yS P w H' a.heap/\HV a.heap d cls dx (some T)/\
 (s.heap.get? d=none/\s.heap.get? T=none/\H' d=none/\H' T=none)/\E cls dx H'
noncomputable instance {P:Program} {w:World}:Quiet (HY P w):=⟨fun X pins σ H s e s' I h=>by
 obtain⟨_,_,_,_,_,_,_,_,_,_,_,_,h⟩:=h;exact h.elim⟩
structure Fp (X:Cx) (pins:List (Addr×Obj)) (σ:St) (H:Hp) (s:Shared) (ea:Addr) (cls:Value) (dx tb:Option Addr):Prop where
 inv:Inv X pins σ H s
 ex:HV s.heap ea cls dx tb
 n0:X.s₀.heap.get? ea=none
 nH:H ea=none
 tbs: ∀T,tb=some T->X.s₀.heap.get? T=none/\H T=none
 apart: ∀p∈X.pn++pins,p.1≠ea/\∀T,tb=some T->p.1≠T
def Rz (X:Cx) (E:XK):Prop:= ∀a σ H s d cls dx i,Fp X a σ H s d cls dx i->E cls dx H->X.xe (.ref d) s
section
theorem rH {H:Hp} {s:Shared} {P:Program} {w:World} {K:W.Frag} {mg:Str->Option Value} {base:Heap} {N:List Str} {qual:Str} {scope:Scope} {f:Addr} {cd:Value} {A:Around} {outer:List Env} {E:XK}:Rz (yP (HY P w) P w K mg base N qual scope f cd A outer s H E) E:=by
  intro J σ Q s1 i cls dx O F Z;have I:=F.inv;refine Hv (by have:=I.ok.frames;exact this) (by have:=I.stack;exact this) rfl F.ex fun h' hx hk=>?_;have d:=I.uQ;have v: ∀b,b∈(envOfC qual scope _ f cd::outer).filterMap (·.frame)->b=s.heap.objs.size\/b∈frs _:=fun b hb=>by
    exact(List.mem_cons.mp hb).elim .inl .inr
  have G: ∀b o,s.heap.get? b=some o->b≠i/\(∀T,O=some T->b≠T)/\b≠s.heap.objs.size:=fun b o e=>
    ⟨
     fun q=>(by have h1:s.heap.get? i=none:=F.n0;rw[q,h1] at e;cases e),
     fun T x q=>(by have h1:s.heap.get? T=none:=(F.tbs T x).1;rw[q,h1] at e;cases e),
     Nat.ne_of_lt (Heap.lt_size e)⟩
  have B:=I.base;refine⟨i,cls,dx,_,Q,rfl,I.os,I.bare,⟨fun b o q n hb hx=>?_,fun b o q n hb hx=>?_,B.free,fun b o q hx=>?_,B.tups,B.frzs,B.tbls⟩,fun b o q=>?_,hx,⟨F.n0,?_,F.nH,I.hok.fresh (Nat.le_refl _)⟩,Z⟩
  ·
    obtain⟨n1,Y,U⟩:=G b o q;exact hk.keep b o (fun hm=>(v b hm).elim U hb) n1 Y (B.keep b o q n hb hx)
  ·
    obtain⟨sl,e⟩:=B.slot b o q n hb hx;obtain⟨m,e'⟩:=hk.slot b _ (by exact List.mem_cons_of_mem _ hb) e;exact⟨m,e'⟩
  ·
    obtain⟨X,e⟩:=B.there b o q hx;exact hk.there b X e
  · have a: ∀c u,Q c=some u->c ∉ (envOfC _ _ _ f cd::outer).filterMap _/\c≠i/\∀T,O=some T->c≠T:=fun c u e=>
      ⟨fun hm=>(by rw[d c hm] at e;cases e),fun z=>(by rw[z,F.nH] at e;cases e),fun T x z=>(by rw[z,(F.tbs T x).2] at e;cases e)⟩
    refine(I.hok b o q).stay (fun c u hc e=>?_) (fun c e=>e) (fun c xs e=>e);rcases hc with z|z
    ·
      obtain⟨j,C,y⟩:=a b o q;subst z;exact hk.keep _ u j C y e
    ·
      obtain⟨j,C,y⟩:=a c _ z;exact hk.keep c u j C y e
  · exact Heap.get?_none_of_le I.sz
end
section
theorem LA (hex:X.ex= []) (I:Inv X pins σ H s) (h:HY X.prog X.w X.stack H s E e s'): ∃a cls dx T H',e = .ref a/\Fp X pins σ H' s' a cls dx (some T)/\E cls dx H':=by
 obtain⟨a,cls,dx,T,H',rfl,os,bare,un,hok,hx,⟨n1,j,i,x⟩,n⟩:=h;have u:=I.call' os un hok bare (fun b z=>absurd z (by simp));have old: ∀b,s.heap.get? b=none->X.s₀.heap.get? b=none:=fun b hb=>by
  cases q:X.s₀.heap.get? b with
  |none=>rfl
  |some o=>
   obtain⟨v,e⟩:=I.base.there b o q (by simp_all);rw[hb] at e;cases e
 refine⟨a,cls,dx,T,H',rfl,⟨u,hx,old a n1,i,(fun m e=>by simp_all),fun p d=>⟨fun z=>?_,fun m e z=>?_⟩⟩,n⟩
 ·
  have q:=(I.pin p d).1;rw[z,n1] at q;cases q
 ·
  cases e;have q:=(I.pin p d).1;rw[z,j] at q;cases q
theorem Rz.passes (hex:X.ex= []) (h:Rz X E):Passes (HY X.prog X.w) X E:=fun a σ H s e j I q=>by
 obtain⟨i,cls,dx,T,H',rfl,F,d⟩:=LA hex I q;exact h _ _ _ _ _ _ _ _ F d
end
theorem bA.fnX {K:W.Frag} {st:Stmt} (F:bA K mg x st) (S:ma N ps (bp st)) (hb: ∀(kV doc pm:Value) (an:Option Addr) (a ct:Value) (us:List Value),us.length=ps.length->bindArgs (W.fnOf x x (jA st) (fT st) (bp st) .none kV doc pm an a ct) ⟨us,[]⟩=pure (ps.zip us)) (len: ∀vs H Q E,sp vs H Q E->vs.length=ps.length) (d: ∀(f:Addr) (a:Value) (A:Around) (outer:List Env) (s:Shared) (H:Hp) (vs:List V) (Q:VK) (E:XK),cG k (A.deeper (envOfC x (bp st) s.heap.objs.size f a))->sp vs H Q E->
   ∃t,ya (yP CX P w K mg base N x (bp st) f a A outer s H E) (fT st) t/\t {nx:=fun _ H'=>Q .non H',rt:=Q} (start N vs) H):FnAt P w K mg base CX x (k+1) ps sp:=by
 obtain⟨f,v,F,hm⟩:=F;have bd:=F.binds hb;have kp:=F.kp;obtain⟨n,u,kV,doc,pm,an,a,ct,m,rfl,lk,i⟩:=F.ex;exact⟨f,_,Gq lk i S len fun A outer s H vs Q E hr j=>d f _ A _ s H vs Q E hr j,hm,kp,bd,n,u,m,lk⟩
theorem jD.there (x:jD P w H h a o): ∃u,h.get? a=some u:=by
 cases o with
 |lst xs=>obtain⟨_,_,_,_,e⟩:=x;exact⟨_,e⟩
 |tup xs=>obtain⟨_,_,_,⟨o,e,_⟩⟩:=x;exact⟨_,e⟩
 |dK d=>obtain⟨_,_,_,_,o,_,_,e,_⟩:=x;exact⟨_,e⟩
 |dT d=>obtain⟨_,_,_,_,o,_,_,e,_⟩:=x;exact⟨_,e⟩
 |set S n=>obtain⟨o,_,_,_,e,_⟩:=x;exact⟨_,e⟩
 |ins C dx fs=>obtain⟨_,_,_,e,_⟩:=x;exact⟨_,e⟩
 |own y=>trivial
 |xd fs=>obtain⟨_,⟨_,_,_,e,_⟩,_⟩:=x;exact⟨_,e⟩
 |rng lo i=>obtain⟨_,_,_,e⟩:=x;exact⟨_,e⟩
 |frz ob u=>obtain⟨e,_⟩:=x;exact⟨_,e⟩
 |tbl j=>exact⟨_,((x))⟩
 |met f y=>exact⟨_,((x))⟩
 |ext m=>obtain⟨_,e,_⟩:=x;exact e
noncomputable abbrev DB:List Value:=[.type "ValueError",.type "Exception",.type "BaseException",.type "object"]
structure AG (K:W.Frag) (mg:Str->Option Value) (x:Str) (C R:Addr) (ini:Option Value):Prop where
 Hs:mg x=some (.ref C)
 cls: ∃N nm q bs sn sub ab col dd k0 k1 k2 k3 k5,K.lookup C=some (excClassObj nm q C N bs (.ref R::DB) true sn sub ab col dd k0 k1 k2 k3 k5 "ValueError.__new__")/\W.nsOkIn K N=true/\W.nsIn K N "__init__" = some ini/\W.nsIn K N "__setattr__" = some none
 road: ∃c0 dd cd sl,K.lookup R=some {cls:=c0,dict:=dd,data:= .cls cd,slots:=sl}/\W.nsOkIn K cd.ns=true/\W.nsIn K cd.ns "__init__" = some none/\W.nsIn K cd.ns "__setattr__" = some none
theorem Fs {K:W.Frag} {q:Str} {cd:ClassData} (X:K.In h) (G:h.Ns mainGlobals mg) (a:W.nsIn K mainGlobals x=some (some (.ref C))) (l:K.lookup C=some (excClassObj nm q C N bs (.ref R::DB) true sn sub ab col dd k0 k1 k2 k3 k5 "ValueError.__new__")) (o:W.nsOkIn K N=true) (i:W.nsIn K N "__init__" = some ini) (t:W.nsIn K N "__setattr__" = some none) (d:K.lookup R=some {cls:=c0,dict:=ddR,data:= .cls cd,slots:=sl}) (j:W.nsOkIn K cd.ns=true) (m:W.nsIn K cd.ns "__init__" = some none) (t':W.nsIn K cd.ns "__setattr__" = some none):AG K mg x C R ini:=
 ⟨W.mg_of X G a,⟨N,nm,q,bs,sn,sub,ab,col,dd,k0,k1,k2,k3,k5,l,o,i,t⟩,⟨c0,ddR,cd,sl,d,j,m,t'⟩⟩
theorem AG.tail {K:W.Frag} (c:AG K mg x C R ini) (X:K.In h):OwnTail h DB (.ref R::DB):=by
 obtain⟨d,dd,cd,a,l,o,i,_⟩:=c.road;exact .own (X _ _ l) (.of_isNs (W.isNs_of_in X o)) (W.nsMap_none_of_in X o i) .base
section
theorem NH (hex:X.ex= []) (I:Inv X pins σ H s) (hm:Heap.MadeExcOf s.heap h' e cls args):Fp X pins σ H {s with heap:=h'} e cls none none:=by
 have hn:=hm.new;obtain⟨t,he,_,_⟩:=hm.there;refine⟨I.kept hm.keeps,⟨_,_,he,rfl,rfl,rfl,by show 1<6;decide,rfl⟩,?_,?_,(fun T q=>by cases q),fun p i=>⟨fun z=>?_,fun T q=>by cases q⟩⟩
 ·
  cases q:X.s₀.heap.get? e with
  |none=>rfl
  |some o=>
   obtain⟨d,a⟩:=I.base.there e o q (by simp_all);rw[hn] at a;cases a
 ·
  cases q:H e with
  |none=>rfl
  |some u=>
   obtain⟨d,a⟩:=(I.hok e u q).there;rw[hn] at a;cases a
 ·
  have q:=(I.pin p i).1;rw[z,hn] at q;cases q
def Fv (E:XK) (C:Addr):TS:=fun _ _ H=>E (.ref C) none H
theorem BQ (c:AG X.K X.mg x C R none) (j:Rz X E) (hc:X.calm=true) (hex:X.ex= []) (hg:Gl X x) (a:(x == ("__debug__" : Str))=false:=by decide):
  PS X (.Raise (some (.Call (.Name x np) [] [] cpos)) none pos) (Fv E C):=by
 intro d s σ H D I h;obtain⟨N,nm,q,bs,sn,sub,ab,col,dd,k0,k1,k2,k3,k5,l,o,i,_⟩:=c.cls;have T:=c.tail I.l9;refine wpAny_Raise_call_subT PySem.F.excBase_ValueError (T.hasType (rfl)) (I.ok.hd hc) rfl (W.nsMap_none_of_in I.l9 o i) (jy I hg c.Hs ⟨rfl,evalArgs_nil3 ⟨rfl,Nat.zero_le _,I.l9 _ _ l,.of_isNs (W.isNs_of_in I.l9 o),T,fun h' e hx=>?_⟩⟩ a);exact j _ _ _ _ _ _ _ _ (NH hex I hx) h
end
section
theorem X4 {K:W.Frag} {cd:ClassData} (X:K.In s.heap) (hx:s.heap.get? x=some ⟨.ref C,none,.fields vs,#[]⟩) (hc:W.clsIn K C=some cd) (hm:cd.mro = .ref C :: .ref R::DB) (hd:cd.hasDict=true) (Y:W.findIn K (.ref C) "__setattr__" = some (some (.builtin "object.__setattr__"))) (ha:W.findIn K (.ref C) name=some none) (h: ∀h' t',h'.get? x=some ⟨.ref C,some s.heap.objs.size,.fields vs,#[]⟩->h'.Ns1 s.heap.objs.size (fun y=>if y=name then some v else none)->(∀b o,b≠x->s.heap.get? b=some o->h'.get? b=some o)->Q () {s with heap:=h',toks:=t'}):
  wpAny (model prog w) A (setAttr (.ref x) name v) Q E s:=by
 have I:W.InstAt s.heap x ⟨.ref C,none,.fields vs,#[]⟩ C none:=⟨hx,rfl,rfl,True.intro⟩;have F:=PySem.F.store_object;have lc:W.Looks (model prog w) s.heap (classData C) cd:=W.looks_clsIn X hc;have sub:W.Looks (model prog w) s.heap (isInstance (.ref x) (.type "object")) true:=I.type.andThen (W.looks_mroIn X (by unfold W.mroIn;rw[hc,Option.bind_some,hm];rfl));have mro:W.Looks (model prog w) s.heap (mroOf (.ref C)) cd.mro:=lc.andThen .now;refine W.set_plain X I Y ?_;refine codeAny_call_builtin F.slot.plain F.entry ?_;refine @W.check_slot (model prog w) _ _ {s with toks:=s.toks+1} "object.__setattr__" "object" "__setattr__" (.ref x) [.str name s.toks,v] [] _ F.kind F.split sub (F.args (.ref x) (.str name s.toks) v) ?_;rw[W.osa_eq,refuse_eq];refine wpAny_bind (wpAny_bind (I.type.here (s:={s with toks:=s.toks+1}) (wpAny_bind (mro.here (s:={s with toks:=s.toks+1}) ?_))));rw[hm,refuseLoop_ref,refuseLoop_ref,PySem.F.store_ValueError.passes];refine wpAny_pure (wpAny_bind (I.type.here (s:={s with toks:=s.toks+1}) (wpAny_bind ((W.looks_findIn X ha).here (s:={s with toks:=s.toks+1}) (wpAny_bind (wpAny_pure ?_))))));refine wpAny_bind (wpAny_pure (wpAny_bind (wpAny_bind (wpAny_loadPart (s:={s with toks:=s.toks+1}) hx (wpAny_bind (lc.here (s:={s with toks:=s.toks+1}) ?_))))));rw[hd,if_neg (by decide)];have u:x≠s.heap.objs.size:=Nat.ne_of_lt (Heap.lt_size hx);have h1:(s.heap.push {cls:= .type "dict",data:= .dict #[]}).get? x=some ⟨.ref C,none,.fields vs,#[]⟩:=Heap.get?_push_of_some _ hx;have B:=Heap.get?_update_self (fun o:Obj=>{cls:=o.cls,dict:=some s.heap.objs.size,data:=o.data,slots:=o.slots}) h1 rfl;have h3:((s.heap.push {cls:= .type "dict",data:= .dict #[]}).update x fun o=>{cls:=o.cls,dict:=some s.heap.objs.size,data:=o.data,slots:=o.slots}).get? s.heap.objs.size=some {cls:= .type "dict",data:= .dict #[]}:=
  (Heap.get?_update_other _ _ u).trans (Heap.get?_push_size _ rfl)
 have hn:((s.heap.push {cls:= .type "dict",data:= .dict #[]}).update x fun o=>{cls:=o.cls,dict:=some s.heap.objs.size,data:=o.data,slots:=o.slots}).Ns s.heap.objs.size (fun _=>none):=
  ⟨_,#[],_,h3,rfl,fun e he=>absurd he (by simp),fun _=>rfl⟩
 show wpAny _ _ (alloc {cls:= .type "dict",data:= .dict #[]} >>= fun d=>update x (fun o=>{cls:=o.cls,dict:=some d,data:=o.data,slots:=o.slots}) >>= fun _=>dictMade (.ref C) x d) _ _ _;refine wpAny_bind (wpAny_alloc ?_);refine wpAny_bind (wpAny_update (s:={s with heap:=s.heap.push {cls:= .type "dict",data:= .dict #[]},toks:=s.toks+1}) h1 ?_);refine wpAny_pure ?_;show wpAny _ _ (Builtin.ObjectAttr.storeInDict s.heap.objs.size (.str name s.toks) name v) _ _ _;unfold Builtin.ObjectAttr.storeInDict Builtin.ObjectAttr.newKeyGuard;refine wpAny_bind (wpAny_pure (wpAny_bind (wpAny_nsSet1 (Heap.Ns1.of_empty hn) fun h' m n=>?_)));obtain⟨oD,J,z,j,a,i⟩:=m.count (PySem.Within.cons name v PySem.Within.nil);refine wpAny_bind (wpAny_lookBehind j (by rw[a];exact pastItsLine_dict (Nat.le_trans i (by rw[List.length_cons,List.length_nil,sizeLine_eq];lia))) ?_);refine wpAny_pure (h h' _ ((n.2 x u).trans B) ?_ fun b o ne hb=>?_)
 ·
  obtain⟨U,O,H,P,e2,G,Z,e4⟩:=m;exact⟨U,O,H,P,e2,G,Z,fun y=>by rw[e4 y]⟩
 ·exact(n.2 b (Nat.ne_of_lt (Heap.lt_size hb))).trans ((Heap.get?_update_other _ _ (Ne.symm ne)).trans (Heap.get?_push_of_some _ hb))
end
section
variable {os:OsState} {K:W.Frag} {q:Str}
theorem Mh {rest:List Value} (X:K.In h) (T:OwnTail h DB bm) (a:h.get? C=some (excClassObj nm q C N bs bm hdct sn sub ab col dd k0 k1 k2 k3 k5 "ValueError.__new__")) (u:W.findIn K (.ref C) "__init__" = some (some (.ref fI))) (hf:W.typeIn K (.ref fI)=some (.type "function")) (hr:rest.length<=sizeLine) (y: ∀h' e,Heap.MadeExcOf h h' e (.ref C) rest->wpAny (model prog w) A (call (.ref fI) (.ref e::rest)) (fun r j=>r = .none/\Q (.done (.ret (.ref e))) j) E ⟨h',g,d,t,os⟩):
  wpAny (model prog w) A (Builtin.«type.__call__» ⟨.ref C::rest,[]⟩) Q E ⟨h,g,d,t,os⟩:=by
 have F:=PySem.F.excBase_ValueError
 repeat (first|with_reducible refine wpAny_loadPart_at a ?_|with_reducible refine wpAny_madeBy_exc a ?_|wp_step)
 refine codeAny_call_builtin_code (Code.quiet_builtin _ F.quiet) (wpAny_check_new_subT F T a ?_);refine codeAny_exc_new_subT F T a ?_ hr;show wpAny _ _ _ _ _ _;have up: ∀b o,h.get? b=some o->((h.push {cls:= .type "tuple",data:= .seq rest.toArray}).push {cls:= .ref C,data:= .fields #[.ref h.objs.size,.none,.none,.none,.bool false,.none]}).get? b=some o:=fun b o e=>Heap.get?_push_of_some _ (Heap.get?_push_of_some _ e);have x:=up _ _ a;have n:=X.keeps up;have m:((h.push {cls:= .type "tuple",data:= .seq rest.toArray}).push {cls:= .ref C,data:= .fields #[.ref h.objs.size,.none,.none,.none,.bool false,.none]}).get? (h.objs.size+1)=some {cls:= .ref C,data:= .fields #[.ref h.objs.size,.none,.none,.none,.bool false,.none]}:=by heap_get
 have t2:((h.push {cls:= .type "tuple",data:= .seq rest.toArray}).push {cls:= .ref C,data:= .fields #[.ref h.objs.size,.none,.none,.none,.bool false,.none]}).get? h.objs.size=some {cls:= .type "tuple",data:= .seq rest.toArray}:=Heap.get?_push_of_some _ (Heap.get?_push_at rfl rfl);have made:Heap.MadeExcOf h ((h.push {cls:= .type "tuple",data:= .seq rest.toArray}).push {cls:= .ref C,data:= .fields #[.ref h.objs.size,.none,.none,.none,.bool false,.none]}) (h.objs.size+1) (.ref C) rest:=
  ⟨up,Heap.get?_none_of_le (Nat.le_succ _),h.objs.size,m,Heap.get?_none_of_le (Nat.le_refl _),t2⟩
 have q2:=y _ _ made;have B:(Value.ref C::bm).contains (.ref C)=true:=by simp
 generalize(h.push {cls:= .type "tuple",data:= .seq rest.toArray}).push {cls:= .ref C,data:= .fields #[.ref h.objs.size,.none,.none,.none,.bool false,.none]}=i at*
 unfold isInstance
 repeat (first|with_reducible refine wpAny_loadPart_at m ?_|(with_reducible refine wpAny_isSubtype_exc x ?_;rw[B])|wp_step)
 show wpAny _ _ (typeLookup (.ref C) _) _ _ _;refine(W.looks_findIn n u).here (s:=⟨i,g,d,t,os⟩) ?_;refine wpAny_holding (wpAny_bind ((W.bind_fn n _ hf).here (s:=⟨i,g,d,t,os⟩) (wpAny_bind (wpAny_mono q2 (fun r j hr=>?_) fun _ _ z=>z))));obtain⟨rfl,v⟩:=hr
 wp_walk
 exact v
theorem Xw {rest:List Value} (X:K.In h) (T:OwnTail h DB bm) (a:h.get? C=some (excClassObj nm q C N bs bm hdct sn sub ab col dd k0 k1 k2 k3 k5 "ValueError.__new__")) (i:W.findIn K (.ref C) "__init__" = some (some (.ref fI))) (hf:W.typeIn K (.ref fI)=some (.type "function")) (hr:rest.length<=sizeLine) (j: ∀h' e,Heap.MadeExcOf h h' e (.ref C) rest->wpAny (model prog w) (A.under (.builtin "type.__call__" ⟨.ref C::rest,[]⟩)) (call (.ref fI) (.ref e::rest)) (fun r m=>r = .none/\Q (.ref e) m) E ⟨h',g,d,t,os⟩):
  wpAny (model prog w) A (call (.ref C) rest) Q E ⟨h,g,d,t,os⟩:=by
 have f1:=tc_lookup;have s:=tc_bind (.ref C);have n:(⟨h,g,d,t,os⟩:Shared).TypeIs (.ref C) "type" :=⟨_,a,rfl⟩;refine wpAny_call (codeAny_of_tree ?_);show wpAny _ _ (callAny (.ref C) _) _ _ _
 repeat (any_goals (first|assumption|with_reducible refine wpAny_loadPart_at a ?_|wp_step))
 refine⟨rfl,?_⟩;refine codeAny_call_builtin_at (Code.quiet_builtin _ (by decide+kernel)) entry_typeCall (wpAny_check_type_call_sub a (Mh X T a i hf hr fun h' e hm=>?_));exact j h' e hm
theorem Mr {prog:Program} {w:World} {A:Around} {E:Value->Shared->Prop} {nm:Str} {C N:Addr} {bs bm:List Value} {hdct:Bool} {sn:List Str} {sub:List Value} {ab:Bool} {col:Option Bool} {dd:Option Addr} {k0 k1 k2 k3 k5:Option Value} {s:Shared} {env:Env} {x:Sem Value} {Q:Flow->Shared->Prop} (i:bm.contains (.type "BaseException")=true) (hh:A.handled=none)
  (hx:wpAny (model prog w) A x (fun v a=> ∃e dx vs,v = .ref e/\a.heap.get? C=some (excClassObj nm q C N bs bm hdct sn sub ab col dd k0 k1 k2 k3 k5 "ValueError.__new__")/\a.heap.get? e=some ⟨.ref C,dx,.fields vs,#[]⟩/\vs[1]?=some .none/\E (.ref e) a) E s):
  wpAny (model prog w) A (raiseStmt env (some x) none) Q E s:=by
 have n:(Value.ref C::bm).contains (.type "BaseException")=true:=by rw[List.contains_cons,i,Bool.or_true]
 unfold raiseStmt;refine wpAny_bind (wpAny_mono hx (fun v a j=>?_) fun _ _ x=>x);obtain⟨e,dx,vs,rfl,m,he,h1,u⟩:=j;obtain⟨y,g,d,tk,os⟩:=a
 repeat (first|with_reducible refine wpAny_loadPart_at he ?_|with_reducible refine wpAny_loadPart_at m ?_|(with_reducible refine wpAny_isSubtype_exc m ?_;rw[n])|wp_step)
 rw[h1];refine wpAny_pure ?_;rw[if_neg (by decide)];exact wpAny_pure (wpAny_raiseNew_none hh u)
end
def xX (e C:Addr) (dx:Option Addr):Heap->Prop:=fun h=> ∃vs:Array Value,h.get? e=some ⟨.ref C,dx,.fields vs,#[]⟩/\1<vs.size/\vs[1]?=some .none
theorem LB (x:xX e C dx h):jD P w H h e (.ext (xX e C dx)):=
 ⟨x,x.elim fun vs q=>⟨_,q.1⟩,fun h1 d a k=>by obtain⟨vs,q,r⟩:=a;exact⟨vs,k _ q,r⟩⟩
noncomputable def lg (H:Hp) (e:Addr):Hp:=fun b=>if b=e then none else H b
theorem jR (n:b≠e):lg H e b=H b:=by unfold lg;rw[if_neg n]
theorem Aw:lg H e e=none:=by unfold lg;rw[if_pos rfl]
section
theorem Inv.drop (I:Inv X pins σ H s) (h:H e=some (.ext φ)):Inv X pins σ (lg H e) s:=by
 have ne: ∀{b:Addr} {o:HO},H b=some o->(∀a,o≠ .ext a)->b≠e:=fun{b o} q n z=>by
  grind
 refine I.un ⟨fun b o q n _ _=>q,fun b o q n _ _=>⟨_,q⟩,fun b o q n _=>?_,fun b o q _=>⟨o,q⟩,fun b xs q=>?_,fun b o u q=>?_,fun b d q=>⟨#[],?_⟩⟩ fun b o q=>?_
 ·
  unfold lg;split
  ·rfl
  ·exact n
 ·rw[jR (ne q (by simp))];exact q
 ·rw[jR (ne q (by simp))];exact q
 ·rw[jR (ne q (by simp)),q];simp
 ·
  have nb:b≠e:=fun z=>by rw[z,Aw] at q;cases q
  rw[jR nb] at q;exact(I.hok b o q).stay (fun c u _ z=>z) (fun c z=>by rw[jR (ne z (by simp))];exact z) fun c xs z=>by rw[jR (ne z (by simp))];exact z
theorem Inv.setx (I:Inv X pins σ H s) (E:H e=some (.ext (xX e C none))) (he:h'.get? e=some ⟨.ref C,some s.heap.objs.size,.fields vs,#[]⟩) (m:1<vs.size) (i:vs[1]?=some .none) (hn:h'.Ns1 s.heap.objs.size (fun z=>if z=f then some u else none)) (k: ∀b o,b≠e->s.heap.get? b=some o->h'.get? b=some o) (v:RelV y u):
  Inv X pins σ (upd (upd H s.heap.objs.size (.xd [(f,y)])) e (.ext (xX e C (some s.heap.objs.size)))) {s with heap:=h',toks:=t'}:=by
 have x:=I.hok.fresh (Nat.le_refl _);have nn: ∀{b:Addr} {o:HO},H b=some o->b≠s.heap.objs.size:=fun{b o} q z=>by simp_all
 have ne: ∀{b:Addr} {o:HO},H b=some o->(∀j,o≠ .ext j)->b≠e:=fun{b o} q n z=>by
  grind
 have a: ∀b,H b=none->b≠e:=fun b q z=>by lia
 refine I.un ⟨fun b o q n _ _=>k b o (a b n) q,fun b o q n _ _=>⟨_,k b o (a b n) q⟩,fun b o q n _=>?_,fun b o q _=>?_,fun b xs q=>?_,fun b o u q=>?_,fun b B q=>⟨#[],?_⟩⟩ fun b o q=>?_
 ·rw[ah (a b n),ah (Nat.ne_of_lt (Heap.lt_size q))];exact n
 ·grind
 ·rw[ah (ne q (by simp)),ah (nn q)];exact q
 ·rw[ah (ne q (by simp)),ah (nn q)];exact q
 ·rw[ah (ne q (by simp)),ah (nn q),q];simp
 ·
  by_cases z:b=e
  ·
   subst z;rw[aa] at q;cases q;exact LB ⟨vs,he,m,i⟩
  ·
   rw[ah z] at q;by_cases d:b=s.heap.objs.size
   ·
    subst d;rw[aa] at q;cases q;refine⟨_,hn,fun g=>?_⟩;by_cases c:g=f
    ·
     rw[c];simp only[List.lookup,BEq.rfl];exact v
    ·
     rw[if_neg c];have:=beq_eq_false_iff_ne.mpr c;simp only[List.lookup,this];exact True.intro
   ·
    rw[ah d] at q;refine(I.hok b o q).stay (fun c u hc g=>?_) (fun c g=>by rw[ah (ne g (by simp)),ah (nn g)];exact g) fun c xs g=>by rw[ah (ne g (by simp)),ah (nn g)];exact g
    rcases hc with r|r
    ·exact k c u (r▸z) g
    ·exact k c u (ne r (by simp)) g
end
structure xJ (K:W.Frag) (C:Addr) (f:Str):Prop where
 sa:W.findIn K (.ref C) "__setattr__" = some (some (.builtin "object.__setattr__"))
 no:W.findIn K (.ref C) f=some none
def Iu (C:Addr) (d i:TE) (f:Str):TS:=fun D σ H=>i σ H fun y j=>d σ j fun x a=> ∃e,x = .ref e/\a e=some (.ext (xX e C none))/\∀dx,a dx=none->D.nx σ (upd (upd a dx (.xd [(f,y)])) e (.ext (xX e C (some dx))))
section
theorem AG.cd {K:W.Frag} (c:AG K mg x C R ini): ∃cd:ClassData,W.clsIn K C=some cd/\cd.mro = .ref C :: .ref R::DB/\cd.hasDict=true:=by
 obtain⟨N,nm,q,bs,sn,sub,ab,col,dd,k0,k1,k2,k3,k5,l,_⟩:=c.cls;unfold W.clsIn;rw[l];exact⟨_,rfl,rfl,rfl⟩
theorem MT (c:AG X.K X.mg x C R ini) (m:xJ X.K C f) (ha:PE X o ta) (n:PE X value tv) (B:o3 value=false:=by rfl):PS X (.Assign [.Attribute o f pos'] value pos) (Iu C ta tv f):=by
 intro i s σ H D I h;obtain⟨cd,hc,hm,hd⟩:=c.cd;refine plainObj_wpAny_Assign_Attribute (lY (n _ s σ H _ I h) fun u s1 y G E O q=>thn (ha _ s1 σ G _ E q) fun j U ⟨x,W,a,P,e,ex,d,q2⟩=>?_) (qZ B);subst ex;obtain rfl:j=Value.ref e:=P;obtain⟨⟨vs,he,J,v⟩,_⟩:=a.hok e _ d;refine X4 a.l9 he hc hm hd m.sa m.no fun h' t' Q z F=>⟨σ,_,a.setx d Q J v z F O,q2 _ (a.hok.fresh (Nat.le_refl _))⟩
end
def Ck (C:Addr) (sp:Sp) (E:XK) (i:TA):TS:=fun _ σ H=>i σ H fun vs d=> ∀e,d e=none->sp (.ref e::vs) (upd d e (.ext (xX e C none))) (fun v a=>v = .non/\∃dx,a e=some (.ext (xX e C dx))/\E (.ref C) dx (lg a e)) E0
section
theorem Inv.newx (I:Inv X pins σ H s) (he:H e=none) (hm:Heap.MadeExcOf s.heap h' e (.ref C) args):Inv X pins σ (upd H e (.ext (xX e C none))) {s with heap:=h'}:=by
 obtain⟨t,oe,_,_⟩:=hm.there;have ne: ∀{b:Addr} {o:HO},H b=some o->b≠e:=fun{b o} q z=>by simp_all
 refine I.un ⟨fun b o q n _ _=>hm.keeps b o q,fun b o q n _ _=>⟨_,hm.keeps b o q⟩,fun b o q n _=>?_,fun b o q _=>⟨o,hm.keeps b o q⟩,fun b xs q=>?_,fun b o u q=>?_,fun b a q=>⟨#[],?_⟩⟩ fun b o q=>?_
 ·rw[ah (fun z=>by rw[z,hm.new] at q;cases q)];exact n
 ·rw[ah (ne q)];exact q
 ·rw[ah (ne q)];exact q
 ·rw[ah (ne q),q];simp
 ·
  by_cases z:b=e
  ·
   subst z;rw[aa] at q;cases q;exact LB ⟨_,oe,by show 1<6;decide,rfl⟩
  ·
   rw[ah z] at q;exact(I.hok b o q).stay (fun c u _ g=>hm.keeps c u g) (fun c g=>by rw[ah (ne g)];exact g) fun c xs g=>by rw[ah (ne g)];exact g
theorem Hd [Quiet CX] (c:AG X.K X.mg x C R ini) (G:uM X.prog X.w X.K X.mg X.base CX C "__init__" k ps sp) (kp:W.keepIn X.K (.ref C)=true) (hr:cG (k+1) X.A) (hz:Rz X E) (hc:X.calm=true) (hex:X.ex= []) (hg:Gl X x) (ha:PA X (a::es) ta) (B:(x == ("__debug__" : Str))=false:=by decide) (he:starEach (a::es) X.env=(false,eval a X.env)::starEach es X.env:=by rfl) (P:(backTo cpos (starEach es X.env)).any (·.1)=false:=by rfl) (hlen: ∀us:List Value,us.length+1=ps.length->us.length<=sizeLine:=by intro us h;simp at h;rw[sizeLine_eq];lia):
  PS X (.Raise (some (.Call (.Name x np) (a::es) [] cpos)) none pos) (Ck C sp E ta):=by
 intro Q s σ H D I h;obtain⟨f,fd,F,M,hb⟩:=G;obtain⟨N,nm,q,bs,sn,sub,ab,col,dd,k0,k1,k2,k3,k5,l,_⟩:=c.cls;refine wpAny_bind (wpAny_standAt ?_);refine Mr (nm:=nm) (q:=q) (C:=C) (N:=N) (bs:=bs) (hdct:=true) (sn:=sn) (sub:=sub) (ab:=ab) (col:=col) (dd:=dd) (k0:=k0) (k1:=k1) (k2:=k2) (k3:=k3) (k5:=k5) ((c.tail I.l9).hasType (rfl)) (I.ok.hd hc) ?_;refine wpAny_bind (wpAny_mono (wpAny_Call_Name_kw (jy I hg c.Hs (W.callWith_K I.ok.mod.kin kp (lY (ha _ _ s σ H _ I h) fun us s1 vs H1 d r q1=>⟨d.l9,?_⟩) he P) B)) (fun v Y j=>wpAny_bind (wpAny_standAt (wpAny_pure j))) fun _ _ z=>z);have T:=c.tail d.l9;have hC:=d.l9 _ _ l;have J:=by
  have y:=(q1 _ (d.hok.fresh (Nat.le_refl _)));have e1:=F.len _ _ _ _ y;have e2:=r.length;rw[List.length_cons] at e1;exact hlen us (by lia)
 refine Xw d.l9 T hC M.at_ (beq_iff_eq.mp M.fn) J fun h' e hm=>?_;have y:H1 e=none:=by
  cases z:H1 e with
  |none=>rfl
  |some u=>
   obtain⟨o',m⟩:=(d.hok e u z).there;rw[hm.new] at m;cases m
 have n0:X.s₀.heap.get? e=none:=by
  cases z:X.s₀.heap.get? e with
  |none=>rfl
  |some o=>
   obtain⟨o',m⟩:=d.base.there e o z (by simp_all);rw[hm.new] at m;cases m
 have n:=d.newx y hm;have Z:=q1 e y;have U:Vals (V.ref e::vs) _:= .cons rfl r;have hl:(Value.ref e::us++ []).length=ps.length:=by
  have z:=F.len _ _ _ _ Z;rw[List.append_nil,<-U.length];exact z
 refine wpAny_call (codeAny_mono (F.run _ _ _ _ _ _ _ _ E0 (hr.make C us []) (n.LF.make C us []) (by have z:=hb _ _ n.l9 hl;rw[List.append_nil] at z;exact z) U Z) fun r s' i=>?_);cases r with
 |error x=>exact Quiet.pass X _ σ _ _ x s' n i
 |ok fl=>
  cases fl with
  |ret u=>
   obtain⟨v,H',O,rv,ev,dx,eH,hE⟩:=n.after i;subst ev;obtain⟨⟨ws,oe,w1,w2⟩,_⟩:=O.hok e _ eH;exact⟨rv,e,dx,ws,rfl,O.l9 _ _ l,oe,w2,hz _ _ _ _ _ _ _ none ⟨O.drop eH,⟨_,ws,oe,rfl,rfl,rfl,w1,w2⟩,n0,Aw,(fun T z=>by cases z),fun p hp=>⟨fun z=>(by have q:=(d.pin p hp).1;rw[z,hm.new] at q;cases q),fun T z=>by cases z⟩⟩ hE⟩
  |next=>trivial
  |brk=>trivial
  |cont=>trivial
end
def oh (e:Addr) (cls:Value) (dx:Option Addr):Heap->Prop:=fun h=> ∃oe vs,h.get? e=some oe/\oe.cls=cls/\oe.dict=dx/\oe.data = .fields vs
theorem Xn (x:oh e cls dx h):jD P w H h e (.ext (oh e cls dx)):=
 ⟨x,x.elim fun oe q=>q.elim fun vs q=>⟨_,q.1⟩,fun h1 d a k=>by obtain⟨oe,vs,q,r⟩:=a;exact⟨oe,vs,k _ q,r⟩⟩
def HJ (T:Addr):Heap->Prop:=fun h=> ∃o,h.get? T=some o
theorem Av (x:HJ e h):jD P w H h e (.ext (HJ e)):=
 ⟨x,x,fun h1 d a k=>by obtain⟨o,q⟩:=a;exact⟨o,k _ q⟩⟩
section
theorem Inv.track (I:Inv X pins σ H s) (n:H a=none) (n0:X.s₀.heap.get? a=none) (J: ∀p∈X.pn++pins,p.1≠a) (ho: ∃o vs,s.heap.get? a=some o/\o.data = .fields vs) (k:jD X.prog X.w (upd H a (.ext φ)) s.heap a (.ext φ)):Inv X pins σ (upd H a (.ext φ)) s:=by
 obtain⟨o,vs,ho,hd⟩:=ho;have ne: ∀{b:Addr} {u:HO},H b=some u->b≠a:=fun{b u} q z=>by simp_all
 have nl:X.env.locals≠a:=fun z=>by
  obtain⟨m,⟨G,Q,P,i,j,_⟩,_⟩:=I.loc;rw[z,ho] at i;cases i;rw[hd] at j;cases j
 have E: ∀x c,X.env.cells.lookup x=some c->c≠a:=fun x c e z=>by
  obtain⟨v,G,i,j⟩:=I.cell x c e;rw[z,ho] at i;cases i;rw[hd] at j;cases j
 refine⟨I.ok,I.os,I.bare,⟨I.base.keep,I.base.slot,fun b u q m hx=>?_,I.base.there,fun b xs q=>?_,fun b o u q=>?_,fun b F q=>?_⟩,I.loc,I.cell,?_,fun x c e=>?_,fun p y=>?_,fun b u q=>?_,I.len⟩
 ·rw[ah (fun z=>by simp_all)];exact I.base.free b u q m hx
 ·
  have d:=I.base.tups b xs q;rw[ah (ne d)];exact d
 ·
  have d:=I.base.frzs b o u q;rw[ah (ne d)];exact d
 ·
  obtain⟨more,d⟩:=I.base.tbls b F q;exact⟨_,by rw[ah (ne d)];exact d⟩
 ·rw[ah nl];exact I.free
 ·rw[ah (E x c e)];exact I.mU x c e
 ·
  obtain⟨O,C,B⟩:=I.pin p y;exact⟨O,by rw[ah (J p y)];exact C,B⟩
 ·
  by_cases z:b=a
  ·
   subst z;rw[aa] at q;cases q;exact k
  ·
   rw[ah z] at q;exact(I.hok b u q).stay (fun c v _ g=>g) (fun c g=>by rw[ah (ne g)];exact g) fun c xs g=>by rw[ah (ne g)];exact g
theorem HK (n:H T=none):lg (upd H T o) T=H:=by
 funext b;unfold lg;split
 ·simp_all
 ·rename_i e;rw[ah e]
theorem Inv.left (I:Inv X pins σ H s) (v: ∀t,T=some t->H t=some (.ext (HJ t))) (he:H ea=some (.ext (HJ ea))) (hk:Uk (frs X.stack) ea T s.heap h') (hx:oh ea cls dx h'):
  Inv X pins σ (upd H ea (.ext (oh ea cls dx))) {s with heap:=h'}:=by
 have ne: ∀{b:Addr} {o:HO},H b=some o->(∀B,o≠ .ext B)->b≠ea/\∀t,T=some t->b≠t:=fun{b o} q n=>⟨fun z=>by
  grind,fun t ht z=>by
  grind⟩
 have d: ∀b,H b=none->b≠ea/\∀t,T=some t->b≠t:=fun b q=>⟨(fun z=>by lia),fun t ht z=>by grind⟩;refine I.call' (ch:=[]) rfl ⟨fun b o q n hb _=>?_,fun b o q n hb _=>hk.slot b o hb q,fun b o q n _=>?_,fun b o q _=>hk.there b o q,fun b xs q=>?_,fun b o u q=>?_,fun b E q=>⟨#[],?_⟩⟩ (fun b o q=>?_) I.bare (fun b z=>absurd z (by simp))
 ·exact hk.keep b o hb (d b n).1 (d b n).2 q
 ·rw[ah (d b n).1];exact n
 ·rw[ah (ne q (by simp)).1];exact q
 ·rw[ah (ne q (by simp)).1];exact q
 ·rw[ah (ne q (by simp)).1,q];simp
 ·
  by_cases z:b=ea
  ·
   subst z;rw[aa] at q;cases q;exact Xn hx
  ·
   rw[ah z] at q;by_cases j:T=some b
   ·
    have a:=v b j;rw[q] at a;injection a with a;subst a;obtain⟨⟨o,x⟩,_⟩:=((I.hok b _ q));obtain⟨y,C⟩:=hk.there b o x;exact Av ⟨y,C⟩
   ·
    have i: ∀{c:Addr} {u:HO},H c=some u->c ∉ frs _:=fun{c u} g m=>by rw[I.uQ c m] at g;cases g
    refine(I.hok b o q).stay (fun c u hc g=>?_) (fun c g=>by rw[ah (ne g (by simp)).1];exact g) fun c xs g=>by rw[ah (ne g (by simp)).1];exact g
    rcases hc with r|r
    ·
     rw[r] at g⊢;exact hk.keep b u (i q) z (fun t ht e=>j (e▸ht)) g
    ·exact hk.keep c u (i r) (ne r (by simp)).1 (ne r (by simp)).2 g
theorem Fp.land (F:Fp X pins σ H s ea cls dx v) (hk:Uk (frs X.stack) ea v s.heap h') (hx:HV h' ea cls dx (some T')):Inv X pins σ (upd H ea (.ext (oh ea cls dx))) {s with heap:=h'}:=by
 obtain⟨oe,vs,he,hc,hd,a,hsz,j⟩:=F.ex;have d:oh ea cls dx h':=by obtain⟨o,ws,C,G,B,E,_⟩:=hx;exact⟨o,ws,C,G,B,E⟩
 have u:=F.inv.track F.nH F.n0 (fun p m=>(F.apart p m).1) ⟨oe,vs,he,a⟩ (Av ⟨oe,he⟩);cases v with
 |none=>
  have i:=u.left (fun t z=>by cases z) aa hk d;have e:upd (upd H ea (.ext (HJ ea))) ea (.ext (oh ea cls dx))=upd H ea (.ext (oh ea cls dx)):=by
   funext b;unfold upd;split<;>rfl
  rw[e] at i;exact i
 |some T=>
  obtain⟨h1,ne,n,y,j,dT,J⟩:=j;obtain⟨t0,tH⟩:=F.tbs T rfl;have i:=u.track (by rw[ah ne];exact tH) t0 (fun p m=>(F.apart p m).2 T rfl) ⟨n,y,j,dT⟩ (Av ⟨n,j⟩);have I:=i.left (fun t z=>by cases z;exact aa) (by rw[ah (Ne.symm ne)];exact aa) hk d;have x:=I.drop (by rw[ah ne];exact aa);have e:lg (upd (upd (upd H ea (.ext (HJ ea))) T (.ext (HJ T))) ea (.ext (oh ea cls dx))) T=upd H ea (.ext (oh ea cls dx)):=by
   funext b;unfold lg upd;by_cases z:b=T
   ·simp_all
   ·simp_all
  rw[e] at x;exact x
theorem Nr {h:Heap} (e:h.get? a=some o):h.objs[a]?=some o:=by
 unfold Heap.get? at e;split at e
 ·cases e
 ·exact e
theorem rW {h:Heap} (e:h.get? a=some o) (i:f o=o):h.update a f=h:=by
 have d:=Nr e;obtain⟨objs,l⟩:=h;have:objs.modify a f=objs:=by
  apply Array.ext (by simp);intro j h1 m;rw[Array.getElem_modify];split
  ·simp_all
  ·rfl
 show(⟨_,l⟩:Heap)=_;rw[this]
theorem z7 (hx:HV s.heap ea cls dx (some T)) (h:Q () s):wpAny M A (setFlight (.ref ea) none) Q E s:=by
 obtain⟨oe,vs,he,_,_,hd,hsz,h1,ne,m,i,a,dT,u⟩:=hx;refine wpAny_bind (wpAny_field he hd h1 ?_);refine wpAny_setField a dT (Array.getElem?_eq_some_iff.mp u).1 ?_;rw[rW a]
 ·exact h
 ·
  obtain⟨c,d,dt,n⟩:=m;obtain rfl:dt = .fields i:=dT;show Obj.mk c d _ n=_;congr 1;congr 1;apply Array.ext (by simp);intro j h1 v;rw[Array.getElem_setIfInBounds];split
  ·simp_all
  ·rfl
end
noncomputable abbrev Cx.wd (X:Cx) (pn:List (Addr×Obj)) (σ:St) (E:XK):Cx:={X with pn:=X.pn++pn,xe:=fun e s=> ∃a cls dx d H',e = .ref a/\Fp X pn σ H' s a cls dx d/\E cls dx H'}
noncomputable abbrev Cx.hand (X:Cx) (e:Value):Cx:={X with A:=X.A.mark (some e),calm:=false,xe:=fun _ _=>False}
section
variable {X:Cx} {pn:List (Addr×Obj)}
theorem Cx.Ok.wd (ok:X.Ok):(X.wd pn σ E).Ok:=
 ⟨ok.mod,ok.kind,ok.glob,ok.blt,ok.above,ok.inj,ok.has,ok.cab,ok.hd,ok.frames,ok.stk,ok.exf,ok.bs,ok.bsz,ok.noex,ok.exfs,ok.funs,ok.frf⟩
theorem Cx.Ok.untry (ok:(X.wd pn σ E).Ok):X.Ok:=
 ⟨ok.mod,ok.kind,ok.glob,ok.blt,ok.above,ok.inj,ok.has,ok.cab,ok.hd,ok.frames,ok.stk,ok.exf,ok.bs,ok.bsz,ok.noex,ok.exfs,ok.funs,ok.frf⟩
theorem Cx.Ok.hand (ok:X.Ok):(X.hand e).Ok:=
 ⟨ok.mod,ok.kind,ok.glob,ok.blt,ok.above,ok.inj,ok.has,ok.cab,(fun z=>by cases z),ok.frames,ok.stk,ok.exf,ok.bs,ok.bsz,ok.noex,ok.exfs,ok.funs,ok.frf⟩
theorem Inv.wd (I:Inv X pn σ H s):Inv (X.wd pn σ0 E) [] σ H s:=⟨I.ok.wd,I.os,I.bare,I.base,I.loc,I.cell,I.free,I.mU,fun p a=>I.pin p (by simp_all),I.hok,I.len⟩
theorem Inv.untry (I:Inv (X.wd pn σ0 E) pins σ H s):Inv X pn σ H s:=⟨I.ok.untry,I.os,I.bare,I.base,I.loc,I.cell,I.free,I.mU,fun p a=>I.pin p (List.mem_append_left _ a),I.hok,I.len⟩
theorem Inv.hand (I:Inv X pins σ H s):Inv (X.hand e) pins σ H s:=⟨I.ok.hand,I.os,I.bare,I.base,I.loc,I.cell,I.free,I.mU,I.pin,I.hok,I.len⟩
theorem Inv.unhand (ok:X.Ok) (I:Inv (X.hand e) pins σ H s):Inv X pins σ H s:=⟨ok,I.os,I.bare,I.base,I.loc,I.cell,I.free,I.mU,I.pin,I.hok,I.len⟩
theorem Fp.untry (F:Fp (X.wd pn σ0 E) pins σ H s ea cls dx tb):Fp X pn σ H s ea cls dx tb:=⟨F.inv.untry,F.ex,F.n0,F.nH,F.tbs,fun p a=>F.apart p (List.mem_append_left _ a)⟩
theorem SP.untry (h:SP (X.wd pn σ0 E) pins D f s'):SP X pn D f s':=by
 cases f with
 |next=>obtain⟨a,H',I,q⟩:=h;exact⟨a,H',I.untry,q⟩
 |brk=>obtain⟨a,H',I,q⟩:=h;exact⟨a,H',I.untry,q⟩
 |cont=>obtain⟨a,H',I,q⟩:=h;exact⟨a,H',I.untry,q⟩
 |ret u=>obtain⟨v,a,H',I,r,q⟩:=h;exact⟨v,a,H',I.untry,r,q⟩
def Ei (CX:Em) (X:Cx) (σ:St) (E:XK):Prop:= ∀(a:List (Addr×Obj)) (H:Hp) (s:Shared) (e:Value) (d:Shared),Inv X a σ H s->CX X.stack H s E e d->X.xe e d
theorem zJ (hex:X.ex= []):Ei (HY X.prog X.w) (X.wd pn σ E) σ E:=fun a H s e j I h=>by
 obtain⟨i,cls,dx,T,H',rfl,F,d⟩:=LA (X:=X.wd pn σ E) hex I h;exact⟨i,cls,dx,_,H',rfl,F.untry,d⟩
end
def Im (a:St) (sp:Sp) (E:XK) (t:TA):TE:=fun σ H Q=>σ=a/\t σ H fun vs d=>sp vs d Q E
def Ie (a:St) (C:Addr) (sp:Sp) (E:XK) (t:TA):TE:=fun σ H Q=>σ=a/\t σ H fun vs d=> ∀x dx,d x=none->d dx=none->dx≠x->
 sp (.ref x::vs) (upd (upd d dx (.own x)) x (.ins C dx [])) (fun v i=>v = .non/\Q (.ref x) i) E
def XU (a:St) (C:Addr) (m:Str) (sp:Sp) (E:XK) (i:TE) (t:TA):TE:=fun σ H Q=>σ=a/\i σ H fun x d=>Yb C m x d (t σ d fun vs j=>sp (x::vs) j Q E)
section
theorem FF (F:uN X.prog X.w X.K X.mg X.base CX k f fd ps sp) (hr:cG k X.A) (hb:Binds X.K fd ps []) (hx:Ei CX X σ0 E) (I:Inv X pins σ0 H s) (r:Vals vs us) (h:sp vs H Q E):wpAny (model X.prog X.w) X.A (call (.ref f) us) (EP X pins σ0 Q) X.xe s:=by
 have d:(us++ []).length=ps.length:=by rw[List.append_nil,<-r.length];exact F.len _ _ _ _ h
 refine wpAny_call (codeAny_mono (F.run _ _ s H _ us vs Q E hr I.LF (by have z:=hb s us I.l9 d;rw[List.append_nil] at z;exact z) r h) fun r j a=>?_);cases r with
 |error e=>exact hx _ H s e j I a
 |ok i=>
  cases i with
  |ret u=>exact I.after a
  |next=>trivial
  |brk=>trivial
  |cont=>trivial
theorem U1 (G:FnAt X.prog X.w X.K X.mg X.base CX x k ps sp) (hr:cG n X.A) (hk:k<=n) (hg:Gl X x) (hx:Ei CX X σ0 E) (ha:PA X (e::es) t) (d:(x == ("__debug__" : Str))=false:=by decide) (he:starEach (e::es) X.env=(false,eval e X.env)::starEach es X.env:=by rfl) (a:(backTo pos (starEach es X.env)).any (·.1)=false:=by rfl):
  PE X (.Call (.Name x p) (e::es) [] pos) (Im σ0 sp E t):=by
 obtain⟨f,m,F,hm,kp,b,_⟩:=G;intro i s σ H Q I ⟨hσ,h⟩;subst hσ;refine wpAny_Call_Name_kw (jy I hg hm ?_ d);refine W.callWith_K I.ok.mod.kin kp (lY (ha _ _ s σ H _ I h) fun us s1 vs u j r q=>⟨j.l9,?_⟩) he a;exact FF F (hr.mono hk) b hx j r q
theorem UZ (c:cE X.K X.mg x C) (G:uM X.prog X.w X.K X.mg X.base CX C "__init__" k ps sp) (hr:cG n X.A) (hk:k+1<=n) (hg:Gl X x) (hx:Ei CX X σ0 E) (ha:PA X (e::es) t) (m:(x == ("__debug__" : Str))=false:=by decide) (a:(e::es).any isStar=false:=by rfl):PE X (.Call (.Name x p) (e::es) [] pos) (Ie σ0 C sp E t):=by
 obtain⟨f,fd,F,hm,hb⟩:=G;rw[List.any_cons,Bool.or_eq_false_iff] at a;intro y s σ H Q I ⟨hσ,h⟩;subst hσ;refine wpAny_Call_Name_kw (jy I hg c.Hs ?_ m);refine W.callWith_K I.ok.mod.kin c.kp (lY (ha _ _ s σ H _ I h) fun us s1 vs H1 i r q=>⟨i.l9,?_⟩) (bL a.1) (kO a.2);have B:=q _ _ (i.hok.fresh (Nat.le_succ _)) (i.hok.fresh (Nat.le_refl _)) (Nat.ne_of_lt (Nat.lt_succ_self _));have j:=Inv.made (C:=C) i;have J:Vals (V.ref (s1.heap.objs.size+1)::vs) _:= .cons rfl r;have O:(Value.ref (s1.heap.objs.size+1)::us++ []).length=ps.length:=by
  have z:=J.length;rw[F.len _ _ _ _ B] at z;rw[List.append_nil];exact z.symm
 refine wpAny_call (D4 i.l9 c.mks hm.at_ (beq_iff_eq.mp hm.fn) (codeAny_mono (F.run _ _ _ _ _ _ _ _ E ((hr.mono hk).make C us [])
  (j.LF.make C us []) (by have z:=hb _ _ j.l9 O;rw[List.append_nil] at z;exact z) J B) fun r U d=>?_))
 cases r with
 |error e=>exact hx _ _ _ e U j d
 |ok P=>
  cases P with
  |ret u=>
   obtain⟨v,H',Y,Z,ev,q3⟩:=j.after d;subst ev;exact⟨Z,⟨V.ref _,H',Y,rfl,q3⟩⟩
  |next=>trivial
  |brk=>trivial
  |cont=>trivial
theorem UX (he:PE X o ta) (c:cE X.K X.mg x C) (G:uM X.prog X.w X.K X.mg X.base CX C m k ps sp) (hr:cG n X.A) (hk:k<=n) (hx:Ei CX X σ0 E) (ha:PA X (e::es) t) (d:(e::es).any isStar=false:=by rfl) (ht:eval (.Call (.Attribute o m apos) (e::es) [] pos) X.env=(do
   let ov<-eval o X.env
   standAt apos.atName
   let (f,first)<-holding [ov] (getMethod ov m pl)
   callWith pos f first (backTo pos (starEach (e::es) X.env)) (backToKw pos (keywordEach [] X.env))):=by rfl):
  PE X (.Call (.Attribute o m apos) (e::es) [] pos) (XU σ0 C m sp E ta t):=by
 obtain⟨f,P,F,hm,b⟩:=G;rw[List.any_cons,Bool.or_eq_false_iff] at d;intro j s σ H Q I ⟨hσ,h⟩;subst hσ;refine W.methodCall_KW (lY (he _ s σ H _ I h) fun u s1 x y v z J=>?_) ht;obtain⟨a,ex,dx,fs,B,l,q⟩:=EC J;subst ex;obtain rfl:u=Value.ref a:=z;refine qs v B c.cl hm l ?_;refine W.callWith_K I.ok.mod.kin hm.kp (lY (ha _ _ s1 σ y _ v q) fun us O vs U i r q2=>⟨i.l9,?_⟩) (bL d.1) (kO d.2);exact FF (vs:= .ref a::vs) F (hr.mono hk) b hx i (.cons rfl r) q2
end
structure qI (K:W.Frag) (mg:Str->Option Value) (x:Str) (C:Addr):Prop where
 Hs:mg x=some (.ref C)
 ty:W.typeIn K (.ref C)=some (.type "type")
 ex:W.mroIn K C (.type "BaseException")=some true
noncomputable def isx (K:W.Frag) (cls:Value) (C:Addr):Option Bool:=match cls with
 | .ref D=>W.mroIn K D (.ref C)
 |_=>none
def Nq (o:Option Bool) (p q:Prop):Prop:=match o with
 |some true=>p
 |some false=>q
 |none=>False
section
theorem xmatch {K:W.Frag} (X:K.In s.heap) (he:s.heap.get? e=some oe) (m:qI K mg x C) (hb:isx K oe.cls C=some b) (h:Q b s):
  wpAny (model prog w) A (excMatches (.ref e) (.ref C)) Q E s:=by
 have a:W.Looks (model prog w) _ (isInstance _ _) _:=(W.looks_typeIn X m.ty).andThen (W.Looks.of_pure tc_notTuple);have i:W.Looks (model prog w) _ _ _:=W.looks_mroIn X m.ex;have L2:W.Looks (model prog w) s.heap (isType (.ref C)) true:=by
  have z:=m.ex;obtain⟨cd,hc,_⟩:=Option.bind_eq_some_iff.mp z;unfold W.clsIn at hc;split at hc
  ·
   rename_i ho;intro v n y u k q;exact wpAny_bind (wpAny_loadPart (k _ _ (X _ _ ho)) (wpAny_pure q))
  ·cases hc
 have d:W.Looks (model prog w) _ (typeOf (.ref e)) _:=(W.Looks.ld he).andThen .now;have j:W.Looks (model prog w) s.heap (isSubtype oe.cls (.ref C)) b:=by
  unfold isx at hb;split at hb
  ·
   rename_i D hD;rw[hD];exact W.looks_mroIn X hb
  ·cases hb
 refine wpAny_bind (a.here ?_);dsimp only;refine wpAny_bind (wpAny_pure ?_);refine wpAny_bind (wpAny_bind (wpAny_bind ?_));refine wpAny_bind (L2.here ?_);refine i.here ?_;refine wpAny_pure ?_;refine wpAny_pure ?_;refine wpAny_bind (d.here ?_);refine wpAny_bind (wpAny_bind (wpAny_bind (j.here ?_)));cases b with
 |true=>exact wpAny_pure (wpAny_pure (wpAny_pure h))
 |false=>
  refine wpAny_pure ?_;exact wpAny_pure (wpAny_pure h)
end
section
theorem sS (I:Inv X pins σ H s) (Y:X.N.Nodup) (G:X.N[i]?=some x) (hk:X.env.scope.names.lookup x=some .local) (h: ∀s',Inv X pins (σ.set i none) H s'->Q () s'):wpAny M A (do bindName X.env x .none;unbindBehindTheSuite X.env x pos) Q E s:=by
 refine wpAny_bind (wpAny_bindName (uP (v:= .non) I Y G (.inl hk) rfl (fun s1 a=>?_) (.inr hk)));have hiσ:i<σ.length:=by rw[I.len];exact(List.getElem?_eq_some_iff.mp G).1
 obtain⟨m,hn,W⟩:=id a.loc;have F:(X.env.scope.kind == .class||(X.env.scope.kind == .module&&X.env.locals != X.env.globals))=false:=by rw[I.ok.kind];rfl
 have J:X.env.kindOf x=some _:=hk;have O: ∃u,m x=some u:=by
  obtain⟨u,_,q⟩:=W i x .non G (by simp_all) (.inl hk);rcases q with⟨_,q⟩|⟨q,_⟩
  ·exact⟨u,q⟩
  ·simp_all
 obtain⟨u,O⟩:=O;refine wpAny_onRaise (wpAny_unbindName_local J hn O F fun h' u' U B=>h _ ?_);have cne:=a.cne;refine⟨a.ok,a.os,a.bare,⟨fun b o e n hb hx=>?_,fun b o e n hb hx=>?_,a.base.free,fun b o e hx=>?_,a.base.tups,a.base.frzs,a.base.tbls⟩,⟨_,U,fun j y v' C e2 e3=>?_⟩,fun y c e=>?_,a.free,a.mU,fun p hp=>?_,fun b ob e=>?_,by simpa using I.len⟩
 ·exact(B.2 b (Nat.ne_of_lt (Nat.lt_of_lt_of_le (Heap.lt_size e) a.ok.above))).trans (a.base.keep b o e n hb hx)
 ·
  obtain⟨sl,C⟩:=a.base.slot b o e n hb hx;exact⟨sl,(B.2 b (Nat.ne_of_lt (Nat.lt_of_lt_of_le (Heap.lt_size e) a.ok.above))).trans C⟩
 ·
  obtain⟨o',C⟩:=a.base.there b o e hx;exact⟨o',(B.2 b (Nat.ne_of_lt (Nat.lt_of_lt_of_le (Heap.lt_size e) a.ok.above))).trans C⟩
 ·
  by_cases P:j=i
  ·simp_all
  ·
   rw[List.getElem?_set_ne (Ne.symm P)] at e2;obtain⟨u3,r3,q⟩:=W j y v' C (by rw[List.getElem?_set_ne (Ne.symm P)];exact e2) e3;refine⟨u3,r3,?_⟩;rcases q with⟨k,e⟩|⟨k,c,e,z⟩
   ·
    refine .inl ⟨k,?_⟩;have:y≠x:=fun e=>P (zR Y C (e▸G));simp[this,e]
   ·exact .inr ⟨k,c,e,z.sameBut B (cne y c e)⟩
 ·
  obtain⟨Z,z⟩:=a.cell y c e;exact⟨Z,z.sameBut B (cne y c e)⟩
 ·
  obtain⟨e,n,ne,nf,d⟩:=a.pin p hp;exact⟨(B.2 _ ne).trans e,n,ne,nf,d⟩
 ·
  refine(a.hok b ob e).stay (fun c Z hc q=>(B.2 c ?_).trans q) (fun _ q=>q) fun _ _ q=>q;rintro rfl;rcases hc with z|z
  ·subst z;rw[a.free] at e;cases e
  ·rw[a.free] at z;cases z
end
noncomputable abbrev TH:=Ends->St->Value->Option Addr->Hp->Prop
def PH (X:Cx) (i:List ExceptHandler) (t:TH):Prop:= ∀(a:List (Addr×Obj)) (s:Shared) (σ:St) (H:Hp) (D:Ends) (d:Addr) (cls:Value) (dx:Option Addr) (T:Addr),
 Inv X a σ (upd H d (.ext (oh d cls dx))) s->HV s.heap d cls dx (some T)->H d=none->t D σ cls dx H->wpAny (model X.prog X.w) X.A (handleBy (.ref d) X.env i) (SP X a D) X.xe s
noncomputable def Ends.un (D:Ends) (i:Nat):Ends:={nx:=fun σ H=>D.nx (σ.set i none) H,rt:=D.rt,bk:=fun σ H=>D.bk (σ.set i none) H,ct:=fun σ H=>D.ct (σ.set i none) H}
def tH0:TH:=fun _ _ _ _ _=>False
def tHc (K:W.Frag) (C:Addr) (i:Nat) (d:TS) (j:TH):TH:=fun D σ cls dx H=>Nq (isx K cls C) (∀a,H a=none->d (D.un i) (σ.set i (some (.ref a))) (upd H a (.ext (oh a cls dx)))) (j D σ cls dx H)
def XR (d:St->XK->TS) (a:TH):TS:=fun D σ H=>d σ (fun cls dx H'=>a D σ cls dx H') D σ H
section
theorem EM:PH X [] tH0:=fun _ _ _ _ _ _ _ _ _ _ _ _ h=>h.elim
theorem MX {X:Cx} {K:W.Frag} {x n:Str} {C:Addr} {i:Nat} {np pos:Pos} {a:Stmt} {body:List Stmt} {rest:List ExceptHandler} {Q:TS} {O:TH} (Z:X.K=K) (m:qI X.K X.mg x C) (hg:Gl X x) (B:X.N.Nodup) (E:X.N[i]?=some n) (hk:X.env.scope.names.lookup n=some .local)
  (hs: ∀e,ya (X.hand e) (a::body) Q) (hr:PH X rest O) (J:(x == ("__debug__" : Str))=false:=by decide):PH X (.ExceptHandler (some (.Name x np)) (some n) (a::body) pos::rest) (tHc K C i Q O):=by
 subst Z;intro P s σ H D F cls dx T I hx U h;have ok:=I.ok;have Y:Inv (X.hand (.ref F)) _ σ _ s:=I.hand;obtain⟨oe,vs,he,hc,_⟩:=id hx;refine wpAny_handleBy_cons (codeAny_handlers_test (jy Y hg m.Hs ?_ J)) (by intro q;cases q);unfold tHc at h;cases hb:isx _ _ C with
 |none=>rw[hb] at h;exact h.elim
 |some b=>
  rw[hb] at h;refine xmatch I.l9 he m (by rw[hc];exact hb) ?_;cases b with
  |false=>exact hr _ s σ H D F _ dx T I hx U h
  |true=>
   refine codeAny_handlers_suite_as (z7 hx (uP (X:=X.hand _) (v:= .ref F) Y B E (.inl hk) rfl (fun s1 I1=>?_) (.inr hk)));refine wpAny_mono (hs _ _ s1 _ _ _ I1 (h F U)) (fun f s2 q=>?_) fun _ _ z=>z.elim;cases f with
   |next=>obtain⟨d,H',y,q⟩:=q;exact sS (y.unhand ok) B E hk fun G j=>⟨_,H',j,q⟩
   |brk=>obtain⟨d,H',y,q⟩:=q;exact sS (y.unhand ok) B E hk fun G j=>⟨_,H',j,q⟩
   |cont=>obtain⟨d,H',y,q⟩:=q;exact sS (y.unhand ok) B E hk fun G j=>⟨_,H',j,q⟩
   |ret u=>obtain⟨v,d,H',y,r,q⟩:=q;exact sS (y.unhand ok) B E hk fun G j=>⟨v,_,H',j,r,q⟩
theorem EJ (hb: ∀pn σ E,ya (X.wd pn σ E) body (j σ E)) (hh:PH X (h₀::hs) th) (a:X.stack=X.env::X.outer:=by rfl) (hf:X.env.frame=some X.env.locals:=by rfl):PS X (.Try body (h₀::hs) [] [] pos) (XR j th):=by
 intro i s σ H D I h;refine wpAny_Try_except (wpAny_mono (hb _ σ _ [] s σ H D I.wd h) (fun f s1 q=>?_) fun e s1 q=>?_)
 ·
  have d:=q.untry;cases f with
  |next=>exact wpAny_execs_nil d
  |brk=>exact d
  |cont=>exact d
  |ret u=>exact d
 ·
  obtain⟨x,cls,dx,j,H',rfl,F,n⟩:=q;have Ok:=F.inv.ok;have v:X.A.frames=some (X.env::X.outer):=by rw[<-a];exact Ok.frames
  have m:s1.heap.FunFrames X.base (X.env::X.outer):=by rw[<-a];exact F.inv.stack
  refine Jn v m hf F.ex fun h' hx hk=>?_;rw[<-a] at hk;exact hh _ _ σ H' D x _ dx _ (F.land hk hx) hx F.nH n
end
structure m7 (K:W.Frag) (C:Addr):Prop where
 ga:W.findIn K (.ref C) "__getattribute__" = some (some (.builtin "BaseException.__getattribute__"))
 gh:W.findIn K (.ref C) "__getattr__" = some none
 bx:W.mroIn K C (.type "BaseException")=some true
 ob:W.mroIn K C (.type "object")=some true
 hd:W.hasDictIn K C=true
 kc:W.findIn K (.ref C) "__class__" = some (some (.builtin "object.__class__"))
 kg:W.specialIn K (.builtin "object.__class__") "__get__" = some (some (.builtin "getset_descriptor.__get__"))
 kt:W.takesIn K (.builtin "object.__class__")=some true
section
variable {K:W.Frag}
theorem Gn {s:Shared} {prog:Program} {w:World} {A:Around} {x C:Addr} {u:Obj} {n:Option Obj} {name:Str} {E:Value->Shared->Prop} {tk:Tok} {fill expr:Bool} {Q:Value->Shared->Prop} (X:K.In s.heap) (I:W.InstAt s.heap x u C n) (g:m7 K C)
  (h: ∀y,wpAny (model prog w) y (Builtin.«object.__getattribute__» ⟨[.ref x,.str name tk],[]⟩) (fun fin d=>match fin with | .done (.ret v)=>wpAny (model prog w) A (handedOut v) Q E d|_=>False) (fun _ _=>False) s):
  wpAny (model prog w) A (getAttrBy (.ref x) (.str name tk) fill expr) Q E s:=by
 have j:=I.type (M:=model prog w);have m:=W.looks_findIn (M:=model prog w) X g.ga;have L2:=W.looks_findIn (M:=model prog w) X g.gh;have i:=PySem.F.excAttr_ValueError;have sub:W.Looks (model prog w) _ (isInstance _ _) _:=I.type.andThen (W.looks_mroIn X g.bx);have a:(expr&&onTheHeap (Value.builtin "BaseException.__getattribute__"))=false:=by cases expr<;>rfl
 refine wpAny_holding (wpAny_bind (j.here (wpAny_bind (m.here ?_))));refine wpAny_bind (L2.here ?_);refine wpAny_bind (wpAny_attempt (wpAny_holding ?_));unfold callGetattribute;rw[a];refine wpAny_call (codeAny_call_builtin i.ga.plain PySem.F.entry_bexc_ga ?_);refine @W.check_slot _ _ _ s _ "BaseException" "__getattribute__" _ _ [] _ (rfl) (rfl) sub (PySem.F.args_bexc_ga _ _) ?_;refine wpAny_mono (h _) (fun fin d z=>?_) fun _ _ z=>z.elim;rcases fin with(_|_|_|_)|_<;>first|exact z|trivial
theorem E5 (X:K.In s.heap) (I:W.InstAt s.heap x ox C od) (g:m7 K C) (hf:W.findObj K C od name=some (.value v)) (hh:W.handedIn v=true) (h:Q v {s with toks:=s.toks+1}):wpAny (model prog w) A (getAttr (.ref x) name expr) Q E s:=by
 refine wpAny_bind (wpAny_mkText (Gn X I g fun i=>?_));have a:=I.type (M:=model prog w);have d:=W.looks_find (M:=model prog w) X I hf;refine wpAny_bind (wpAny_pure (wpAny_bind (wpAny_pure (wpAny_bind (a.at (wpAny_bind (d.at ?_)))))));refine wpAny_pure ?_;show wpAny _ _ _ _ _ _;rw[W.handedOut_of hh];exact wpAny_pure h
theorem E6 (X:K.In s.heap) (I:W.InstAt s.heap x ox C od) (g:m7 K C) (h:Q (some (.ref C)) {s with toks:=s.toks+1}):
  wpAny (model prog w) A (getAttr? (.ref x) "__class__") Q E s:=by
 have hf:W.findObj K C od "__class__" = some (.bind (.builtin "getset_descriptor.__get__") (.builtin "object.__class__")):=by
  obtain⟨cd,hc,_⟩:=W.any_some g.hd;unfold W.findObj;rw[hc,g.kc];simp[g.kg,g.kt]
 refine wpAny_bind (wpAny_mkText (wpAny_bind (wpAny_attempt (Gn X I g fun i=>?_))));have a:=I.type (M:=model prog w);have d:=W.looks_find (M:=model prog w) X I hf;refine wpAny_bind (wpAny_pure (wpAny_bind (wpAny_pure (wpAny_bind (a.at (wpAny_bind (d.at ?_)))))));refine wpAny_bind (wpAny_holding (wpAny_call (W.class_get X I g.ob ?_)));exact wpAny_pure (W.handed_on rfl (wpAny_pure h))
end
theorem JB {K:W.Frag} (g:m7 K D):W.KitX K (.ref x) (.ref D) (fun h=> ∃u s,W.InstAt h x u D s) where
 ty:=fun _ _ _ ⟨_,_,I⟩=>I.type
 it:=fun _ _ X _=>by
  obtain⟨m,a,_⟩:=W.any_some g.hd;unfold W.clsIn at a;split at a
  ·
   rename_i y d' j i ho;intro F C G E k q;exact wpAny_bind (wpAny_loadPart (k _ _ (X _ _ ho)) (wpAny_pure q))
  ·trivial
 ne:=fun h tp dd v n B X d=>by
  obtain⟨m,a,_⟩:=W.any_some g.hd;refine Bool.eq_false_iff.mpr fun q=>?_;have e:=Value.ref.inj (beq_iff_eq.mp q);subst e;unfold W.clsIn at a;split at a
  ·
   rename_i y d' j i ho;have z:=(X _ _ ho).symm.trans d;cases z
  ·trivial
 ca:=fun X I k=>by obtain⟨u,s,I⟩:=I;exact E6 X I g k
theorem NI (e:oh a c d=oh a c' d'):c=c'/\d=d':=by
 have h1:oh a c d {objs:=Array.replicate (a+1) ⟨c,d,.fields #[],#[]⟩}:=⟨⟨c,d,_,#[]⟩,#[],by unfold Heap.get?;simp,rfl,rfl,rfl⟩;rw[e] at h1;obtain⟨oe,vs,i,m,j,_⟩:=h1;have n:Heap.get? {objs:=Array.replicate (a+1) ⟨c,d,.fields #[],#[]⟩} a=some ⟨c,d,.fields #[],#[]⟩:=by unfold Heap.get?;simp
 rw[n] at i;cases i;exact⟨m,j⟩
theorem Xm {N:Addr->Option Addr->Prop}:(∃D dx,some (HO.ext (oh a (.ref C) d))=some (HO.ext (oh a (.ref D) dx))/\N D dx)=N C d:=by
 apply propext;constructor
 ·
  rintro⟨D,dx,e,h⟩;have j:=Option.some.inj e;injection j with m;obtain⟨i,n⟩:=NI m;cases i;cases n;exact h
 ·exact fun h=>⟨C,d,rfl,h⟩
theorem ahg {N:List (Str×V)->Prop}:(∃fs,some (HO.xd l)=some (HO.xd fs)/\N fs)=N l:=by
 simp_all
def E4 (o:Option Bool) (N:Bool->Prop):Prop:=match o with
 |some b=>N b
 |none=>False
theorem Hz:E4 (some b) N=N b:=rfl
def Dx (H:Hp):Option Addr->Prop
 |none=>True
 |some d=> ∃fs,H d=some (.xd fs)
theorem Up:Dx H (some d)= ∃fs,H d=some (.xd fs):=rfl
theorem Xh:(∃fs,some (HO.xd l)=some (HO.xd fs))=True:=eq_true ⟨l,rfl⟩
def FJ (K:W.Frag):List V->Hp->VK->Prop:=fun xs H Q=>match xs with
 | [.ref p,.ref C]=> ∃D dx,H p=some (.ext (oh p (.ref D) dx))/\m7 K D/\Dx H dx/\E4 (W.kitOne K (.ref D) (.ref C)) fun b=>Q (.bl b) H
 | [.ref p,.ty n]=> ∃D dx,H p=some (.ext (oh p (.ref D) dx))/\m7 K D/\Dx H dx/\E4 (W.kitOne K (.ref D) (.type n)) fun b=>Q (.bl b) H
 |_=>False
theorem G7 {K:W.Frag}:FJ K [.ref p,.ref C] H Q= ∃D dx,H p=some (.ext (oh p (.ref D) dx))/\m7 K D/\Dx H dx/\E4 (W.kitOne K (.ref D) (.ref C)) fun b=>Q (.bl b) H:=rfl
theorem IQ {K:W.Frag}:FJ K [.ref p,.ty n] H Q= ∃D dx,H p=some (.ext (oh p (.ref D) dx))/\m7 K D/\Dx H dx/\E4 (W.kitOne K (.ref D) (.type n)) fun b=>Q (.bl b) H:=rfl
section
theorem Inv.inst (I:Inv X pins σ H s) (h:H p=some (.ext (oh p (.ref D) dx))) (hd: ∀d,dx=some d->∃o,s.heap.get? d=some o):
  ∃m i,W.InstAt s.heap p m D i/\∀d,dx=some d->s.heap.get? d=i:=by
 obtain⟨⟨oe,vs,he,hc,j,a⟩,_⟩:=((I.hok p _ h));cases dx with
 |none=>exact⟨oe,none,⟨he,hc,by unfold W.notCls;rw[a],by simp_all⟩,fun d z=>by cases z⟩
 |some d=>
  obtain⟨o,ho⟩:=hd d rfl;exact⟨oe,some o,⟨he,hc,by unfold W.notCls;rw[a],by simp_all⟩,fun d' z=>by simp_all⟩
theorem Cc (K:W.Frag) (m:X.K=K):bP X (.builtin "isinstance") (FJ K):=by
 subst m;intro j s σ H xs us Q I rs q;unfold FJ at q;have key: ∀{p D:Addr} {dx:Option _} {c:Value} {b:Bool},H p=some (.ext (oh p _ dx))->m7 _ D->Dx H dx->W.kitOne X.K _ c=some b->Q _ H->wpAny (model X.prog X.w) X.A _ (EP X _ σ Q) X.xe s:=fun{p D dx c b} a g ok e h=>by
  obtain⟨y,v,J,_⟩:=I.inst a (fun d z=>by
   subst z;obtain⟨fs,x⟩:=ok;exact(I.hok d _ x).there)
  exact W.kia_one (JB g) I.l9 ⟨y,v,J⟩ e (fun z=>nomatch z) fun tk=>⟨.bl b,H,I.tok tk,rfl,h⟩
 split at q
 ·
  rename_i p C;obtain⟨u,c,rfl,i,rc⟩:=vals2 rs;obtain rfl:u=Value.ref p:=i;obtain rfl:c=Value.ref C:=rc;obtain⟨D,dx,a,g,ok,q⟩:=q;cases e:W.kitOne _ _ _ with
  |none=>rw[e] at q;exact q.elim
  |some b=>rw[e] at q;exact key a g ok e q
 ·
  rename_i p n;obtain⟨u,c,rfl,i,rc⟩:=vals2 rs;obtain rfl:u=Value.ref p:=i;obtain rfl:c=Value.type n:=rc;obtain⟨D,dx,a,g,ok,q⟩:=q;cases e:W.kitOne _ _ _ with
  |none=>rw[e] at q;exact q.elim
  |some b=>rw[e] at q;exact key a g ok e q
 ·trivial
theorem zG (m:qI X.K X.mg x C) (hg:Gl X x) (hd:(x == ("__debug__" : Str))=false:=by decide):PE X (.Name x pos) (tC (.ref C)):=FR hg m.Hs rfl hd
end
section
theorem PS.nox {st:Stmt} (h:PS X.nox st ts):PS X st ts:=fun a s σ H D I hw=>
 wpAny_mono (h _ s σ H D (I.wish _) hw) (fun _ _ q=>q.unwish) fun _ _ z=>False.elim z
theorem Jj (G:FnAt X.prog X.w X.K X.mg X.base (HY X.prog X.w) x k ps sp) (hr:cG n X.A) (hk:k<=n) (hg:Gl X x) (d:Rz X E) (hex:X.ex= []) (ha:PA X (e::es) t) (a:(x == ("__debug__" : Str))=false:=by decide) (h:(e::es).any isStar=false:=by rfl):PE X (.Call (.Name x p) (e::es) [] pos) (BI sp [] E t):=by
 obtain⟨f,i,F,hm,kp,b,_⟩:=G;rw[List.any_cons,Bool.or_eq_false_iff] at h;exact FT F (hr.mono hk) hg hm kp b .nil (d.passes hex) ha a (bL h.1) (kO h.2)
def L8 (K:W.Frag) (mg:Str->Option Value) (x:Str) (C R:Addr):Prop:= ∃a,AG K mg x C R a
theorem nE [Quiet CX] (c:L8 X.K X.mg x C R) (G:uM X.prog X.w X.K X.mg X.base CX C "__init__" k ps sp) (kp:W.keepIn X.K (.ref C)=true) (hr:cG n X.A) (hk:k+1<=n) (d:Rz X E) (hc:X.calm=true) (hex:X.ex= []) (hg:Gl X x) (ha:PA X (e::es) t) (a:(x == ("__debug__" : Str))=false:=by decide) (h:(e::es).any isStar=false:=by rfl) (hlen: ∀us:List Value,us.length+1=ps.length->us.length<=sizeLine:=by intro us h;simp at h;rw[sizeLine_eq];lia):
  PS X (.Raise (some (.Call (.Name x p) (e::es) [] apos)) none pos) (Ck C sp E t):=by
 obtain⟨i,c⟩:=c;rw[List.any_cons,Bool.or_eq_false_iff] at h;exact Hd c G kp (hr.mono hk) d hc hex hg ha a (bL h.1) (kO h.2) hlen
theorem vf (c:L8 X.K X.mg x C R) (m:xJ X.K C f) (ha:PE X o ta) (i:PE X value tv) (a:o3 value=false:=by rfl):PS X (.Assign [.Attribute o f pos'] value pos) (Iu C ta tv f):=by
 obtain⟨d,c⟩:=c;exact MT c m ha i a
end
theorem MethAt.fnX {K:W.Frag} {q:Str} {st:Stmt} (F:MethAt K C m q st) (S:ma N ps (bp st)) (hb: ∀(kV doc pm:Value) (an:Option Addr) (a ct:Value) (us:List Value),us.length=ps.length->bindArgs (W.fnOf m q (jA st) (fT st) (bp st) .none kV doc pm an a ct) ⟨us,[]⟩=pure (ps.zip us)) (len: ∀vs H Q E,sp vs H Q E->vs.length=ps.length) (d: ∀(f:Addr) (a:Value) (A:Around) (outer:List Env) (s:Shared) (H:Hp) (vs:List V) (Q:VK) (E:XK),cG k (A.deeper (envOfC q (bp st) s.heap.objs.size f a))->sp vs H Q E->
   ∃t,ya (yP CX P w K mg base N q (bp st) f a A outer s H E) (fT st) t/\t {nx:=fun _ H'=>Q .non H',rt:=Q} (start N vs) H):uM P w K mg base CX C m (k+1) ps sp:=by
 obtain⟨f,v,F,hm⟩:=F;have bd:=F.binds hb;obtain⟨u,x,kV,doc,pm,an,a,ct,n,rfl,lk,i⟩:=F.ex;exact⟨f,_,Gq lk i S len fun A outer s H vs Q E hr j=>d f _ A _ s H vs Q E hr j,hm,bd⟩
theorem Mb {K:W.Frag} (ga:W.findIn K (.ref C) "__getattribute__" = some (some (.builtin "BaseException.__getattribute__"))) (gh:W.findIn K (.ref C) "__getattr__" = some none) (bx:W.mroIn K C (.type "BaseException")=some true) (ob:W.mroIn K C (.type "object")=some true) (hd:W.hasDictIn K C=true) (kc:W.findIn K (.ref C) "__class__" = some (some (.builtin "object.__class__"))) (kg:W.specialIn K (.builtin "object.__class__") "__get__" = some (some (.builtin "getset_descriptor.__get__"))) (kt:W.takesIn K (.builtin "object.__class__")=some true):m7 K C:=⟨ga,gh,bx,ob,hd,kc,kg,kt⟩
theorem Ma {K:W.Frag} (X:K.In h) (G:h.Ns mainGlobals mg) (a:W.nsIn K mainGlobals x=some (some (.ref C))) (t:W.typeIn K (.ref C)=some (.type "type")) (b:W.mroIn K C (.type "BaseException")=some true):qI K mg x C:=
 ⟨W.mg_of X G a,t,b⟩
def Dn (K:W.Frag) (H:Hp):Nat->V->Dt->Prop
 |0,x,d=>(x = .non/\d = .non)\/(∃i,x = .int i/\d = .int i)\/(∃z,x = .str z/\d = .str z)\/(∃b,x = .bl b/\d = .int (if b then 1 else 0))
 |n+1,x,d=>Dn K H n x d\/(∃a xs j,x = .ref a/\d = .l j/\bO K H a xs/\Paired (Dn K H n) xs j)\/(∃a xs j,x = .ref a/\d = .t j/\n_ K H a xs/\Paired (Dn K H n) xs j)
section
variable {X:Cx}
open Classical in
theorem vV:decide (Dt.int i=Dt.int j)=(i == j):=by
 lia
theorem ahl (a b:Bool):((if a then(1:Int) else 0) == (if b then 1 else 0))=(a == b):=by cases a<;>cases b<;>rfl
open Classical in
theorem NL (m:RelV x u) (a:RelV y v) (hx:Dn X.K H 0 x d) (n:Dn X.K H 0 y e):SeqAt.EqAt A s u v (decide (d=e)):=by
 rcases hx with⟨rfl,rfl⟩|⟨i,rfl,rfl⟩|⟨i,rfl,rfl⟩|⟨i,rfl,rfl⟩<;>rcases n with⟨rfl,rfl⟩|⟨j,rfl,rfl⟩|⟨j,rfl,rfl⟩|⟨j,rfl,rfl⟩
 ·cases m;cases a;rw[decide_eq_true rfl];exact SeqAt.EqAt.same _
 ·cases m;obtain⟨t,rfl⟩:=a;rw[decide_eq_false (fun z=>nomatch z)];exact SeqAt.EqAt.none_int _ _
 ·cases m;obtain⟨t,rfl⟩:=a;rw[decide_eq_false (fun z=>nomatch z)];exact SeqAt.EqAt.none_str _ _
 ·cases m;cases a;rw[decide_eq_false (fun z=>nomatch z)];exact SeqAt.EqAt.none_bool _
 ·obtain⟨t,rfl⟩:=m;cases a;rw[decide_eq_false (fun z=>nomatch z)];exact SeqAt.EqAt.int_none _ _
 ·obtain⟨t,rfl⟩:=m;obtain⟨t',rfl⟩:=a;rw[vV];exact SeqAt.EqAt.int_int _ _ _ _
 ·obtain⟨t,rfl⟩:=m;obtain⟨t',rfl⟩:=a;rw[decide_eq_false (fun z=>nomatch z)];exact SeqAt.EqAt.int_str _ _ _ _
 ·obtain⟨t,rfl⟩:=m;cases a;rw[vV];exact SeqAt.EqAt.int_bool _ _ _
 ·obtain⟨t,rfl⟩:=m;cases a;rw[decide_eq_false (fun z=>nomatch z)];exact SeqAt.EqAt.str_none _ _
 ·obtain⟨t,rfl⟩:=m;obtain⟨t',rfl⟩:=a;rw[decide_eq_false (fun z=>nomatch z)];exact SeqAt.EqAt.str_int _ _ _ _
 ·
  obtain⟨t,rfl⟩:=m;obtain⟨t',rfl⟩:=a;have e:decide (Dt.str i=Dt.str j)=(i == j):=by
   rw[Bool.eq_iff_iff,decide_eq_true_eq,beq_iff_eq];exact⟨fun q=>Dt.str.inj q,fun q=>by rw[q]⟩
  rw[e];exact SeqAt.EqAt.str_str _ _ _ _
 ·obtain⟨t,rfl⟩:=m;cases a;rw[decide_eq_false (fun z=>nomatch z)];exact SeqAt.EqAt.str_bool _ _ _
 ·cases m;cases a;rw[decide_eq_false (fun z=>nomatch z)];exact SeqAt.EqAt.bool_none _
 ·cases m;obtain⟨t,rfl⟩:=a;rw[vV];exact SeqAt.EqAt.bool_int _ _ _
 ·cases m;obtain⟨t,rfl⟩:=a;rw[decide_eq_false (fun z=>nomatch z)];exact SeqAt.EqAt.bool_str _ _ _
 ·cases m;cases a;rw[vV,ahl];exact SeqAt.EqAt.bool_bool _ _
theorem Dn.cases {K:W.Frag}: ∀{n:Nat} {x:V} {d:Dt},Dn K H n x d->Dn K H 0 x d\/(∃m,m<n/\∃a xs i,x = .ref a/\d = .l i/\bO K H a xs/\Paired (Dn K H m) xs i)\/(∃m,m<n/\∃a xs i,x = .ref a/\d = .t i/\n_ K H a xs/\Paired (Dn K H m) xs i)
 |0,_,_,h=> .inl h
 |n+1,_,_,h=>by
  rcases h with h|h|h
  ·
   rcases Dn.cases h with q|⟨m,hm,q⟩|⟨m,hm,q⟩
   ·exact .inl q
   ·exact .inr (.inl ⟨m,by lia,q⟩)
   ·exact .inr (.inr ⟨m,by lia,q⟩)
  ·exact .inr (.inl ⟨n,by lia,h⟩)
  ·exact .inr (.inr ⟨n,by lia,h⟩)
theorem Dn.up {K:W.Frag} (h:Dn K H n x d) (hm:n<=m):Dn K H m x d:=by
 induction m with
 |zero=>simp_all
 |succ m a=>
  by_cases e:n=m+1
  ·simp_all
  ·exact .inl (a (by lia))
theorem Xr (n:Nat): ∀{m:Nat} {x:V} {d e:Dt},Inv X pins σ H s->Dn X.K H n x d->Dn X.K H m x e->d=e:=by
 induction n using Nat.strongRecOn with
 |_ n F=>
 intro m x d e I hx u;rcases hx.cases with hx|⟨C,hm,a,xs,G,rfl,rfl,ha,pa⟩|⟨C,hm,a,xs,G,rfl,rfl,ha,pa⟩
 ·
  rcases u.cases with u|⟨k,hk,b,y,B,rfl,rfl,hb,pb⟩|⟨k,hk,b,y,B,rfl,rfl,hb,pb⟩
  ·rcases hx with⟨rfl,rfl⟩|⟨i,rfl,rfl⟩|⟨i,rfl,rfl⟩|⟨i,rfl,rfl⟩<;>rcases u with⟨z,rfl⟩|⟨j,z,rfl⟩|⟨j,z,rfl⟩|⟨j,z,rfl⟩<;>first|rfl|simp_all|cases z
  ·rcases hx with⟨z,_⟩|⟨i,z,_⟩|⟨i,z,_⟩|⟨i,z,_⟩<;>cases z
  ·rcases hx with⟨z,_⟩|⟨i,z,_⟩|⟨i,z,_⟩|⟨i,z,_⟩<;>cases z
 ·
  rcases u.cases with u|⟨k,hk,b,y,B,v,rfl,hb,pb⟩|⟨k,hk,b,y,B,v,rfl,hb,pb⟩
  ·rcases u with⟨z,_⟩|⟨i,z,_⟩|⟨i,z,_⟩|⟨i,z,_⟩<;>cases z
  ·
   cases v;have:=I.D5 ha hb;subst this;rw[tY pa pb fun x d e h1 E=>F C hm I h1 E]
  ·
   cases v;exact(rV I ha hb).elim
 ·
  rcases u.cases with u|⟨k,hk,b,y,B,v,rfl,hb,pb⟩|⟨k,hk,b,y,B,v,rfl,hb,pb⟩
  ·rcases u with⟨z,_⟩|⟨i,z,_⟩|⟨i,z,_⟩|⟨i,z,_⟩<;>cases z
  ·
   cases v;exact(rV I hb ha).elim
  ·
   cases v;have:=I.BF ha hb;subst this;rw[tY pa pb fun x d e h1 E=>F C hm I h1 E]
open Classical in
theorem vT {n:Nat} (B:Vals xs its) (z:Vals ys its2) (pa:Paired (Dn X.K H m) xs ds) (pb:Paired (Dn X.K H k) ys es) (F: ∀x y u v d e,RelV x u->RelV y v->Dn X.K H m x d->Dn X.K H k y e->SeqAt.EqAt A s u v (decide (d=e))):
  ∀j (h1:j<its.toArray.size) (E:j<its2.toArray.size),SeqAt.EqAt A s its.toArray[j] its2.toArray[j] (decide (ds[j]?=es[j]?)):=by
 intro j h1 E;have W:j<its.length:=‹_›;have Q:j<its2.length:=‹_›;have l1:=B.length;have l2:=z.length;have i:xs[j]?=some xs[j]:=by simp
 have a:ys[j]?=some ys[j]:=by simp
 obtain⟨d',Z,pd⟩:=Paired.get pa i;obtain⟨e',U,pe⟩:=Paired.get pb a;obtain⟨u',P,C⟩:=B.get i;obtain⟨G,I,rv⟩:=z.get a;have O:its.toArray[j]=u':=by
  simp_all
 have Y:its2.toArray[j]=G:=by
  simp_all
 have J:decide (ds[j]?=es[j]?)=decide (d'=e'):=by
  simp_all
 rw[O,Y,J];exact F _ _ _ _ _ _ C rv pd pe
open Classical in
theorem Gv (n:Nat): ∀{A:Around} {x y:V} {u v:Value} {d e:Dt},Inv X pins σ H s->A.units+n<cLine->RelV x u->RelV y v->Dn X.K H n x d->Dn X.K H n y e->SeqAt.EqAt A s u v (decide (d=e))/\∀a b,x = .ref a->y = .ref b->SeqAt.RcAt A s (.ref a) (.ref b) (decide (d=e)):=by
 induction n using Nat.strongRecOn with
 |_ n ih=>
 intro A x y u v d e I hu J E hx hy;have lift: ∀{a b:Addr},x = .ref a->y = .ref b->SeqAt.RcAt A s _ (.ref b) (decide (d=e))->SeqAt.EqAt A s (.ref a) (.ref b) (decide (d=e)):=fun{a b} ea eb q=>by
  by_cases hab:a=b
  ·
   subst hab;subst ea;subst eb;rw[decide_eq_true (Xr n I hx hy)];exact SeqAt.EqAt.same _
  ·exact SeqAt.EqAt.of_refs hab q
 have B:A.units<cLine:=by lia
 rcases hx.cases with U|⟨m,hm,a,xs,O,rfl,rfl,ha,pa⟩|⟨m,hm,a,xs,O,rfl,rfl,ha,pa⟩
 ·
  rcases hy.cases with P|⟨k,hk,b,ys,G,rfl,rfl,hb,pb⟩|⟨k,hk,b,ys,G,rfl,rfl,hb,pb⟩
  ·
   refine⟨NL J E U P,fun a b W Y=>?_⟩;subst W;rcases U with⟨z,_⟩|⟨i,z,_⟩|⟨i,z,_⟩|⟨i,z,_⟩<;>cases z
  ·
   cases E;obtain⟨F,_,p,_⟩:=I.list hb;rcases U with⟨rfl,rfl⟩|⟨i,rfl,rfl⟩|⟨i,rfl,rfl⟩|⟨i,rfl,rfl⟩
   ·cases J;rw[decide_eq_false (fun z=>nomatch z)];exact⟨SeqAt.EqAt.none_list p.isList B,fun a b z=>nomatch z⟩
   ·obtain⟨t,rfl⟩:=J;rw[decide_eq_false (fun z=>nomatch z)];exact⟨SeqAt.EqAt.int_list _ _ p.isList B,fun a b z=>nomatch z⟩
   ·obtain⟨t,rfl⟩:=J;rw[decide_eq_false (fun z=>nomatch z)];exact⟨SeqAt.EqAt.str_list _ _ p.isList B,fun a b z=>nomatch z⟩
   ·cases J;rw[decide_eq_false (fun z=>nomatch z)];exact⟨SeqAt.EqAt.bool_list _ p.isList B,fun a b z=>nomatch z⟩
  ·
   cases E;obtain⟨F,_,p,_⟩:=I.tuple hb;rcases U with⟨rfl,rfl⟩|⟨i,rfl,rfl⟩|⟨i,rfl,rfl⟩|⟨i,rfl,rfl⟩
   ·cases J;rw[decide_eq_false (fun z=>nomatch z)];exact⟨SeqAt.EqAt.none_tuple p B,fun a b z=>nomatch z⟩
   ·obtain⟨t,rfl⟩:=J;rw[decide_eq_false (fun z=>nomatch z)];exact⟨SeqAt.EqAt.int_tuple _ _ p B,fun a b z=>nomatch z⟩
   ·obtain⟨t,rfl⟩:=J;rw[decide_eq_false (fun z=>nomatch z)];exact⟨SeqAt.EqAt.str_tuple _ _ p B,fun a b z=>nomatch z⟩
   ·cases J;rw[decide_eq_false (fun z=>nomatch z)];exact⟨SeqAt.EqAt.bool_tuple _ p B,fun a b z=>nomatch z⟩
 ·
  cases J;obtain⟨F,r1,p,hz⟩:=I.list ha;rcases hy.cases with P|⟨k,hk,b,ys,G,rfl,rfl,hb,pb⟩|⟨k,hk,b,ys,G,rfl,rfl,hb,pb⟩
  ·
   rcases P with⟨rfl,rfl⟩|⟨i,rfl,rfl⟩|⟨i,rfl,rfl⟩|⟨i,rfl,rfl⟩
   ·cases E;rw[decide_eq_false (fun z=>nomatch z)];exact⟨SeqAt.EqAt.list_none p.isList B,fun a b _ z=>nomatch z⟩
   ·obtain⟨t,rfl⟩:=E;rw[decide_eq_false (fun z=>nomatch z)];exact⟨SeqAt.EqAt.list_int _ _ p.isList B,fun a b _ z=>nomatch z⟩
   ·obtain⟨t,rfl⟩:=E;rw[decide_eq_false (fun z=>nomatch z)];exact⟨SeqAt.EqAt.list_str _ _ p.isList B,fun a b _ z=>nomatch z⟩
   ·cases E;rw[decide_eq_false (fun z=>nomatch z)];exact⟨SeqAt.EqAt.list_bool _ p.isList B,fun a b _ z=>nomatch z⟩
  ·
   cases E;obtain⟨C,r2,Q,hz2⟩:=I.list hb;have l1:=r1.length;have l2:=r2.length;have l3:=Paired.length pa;have l4:=Paired.length pb;have eqd:decide (Dt.l O=Dt.l G)=decide (O=G):=by
    rw[Bool.eq_iff_iff,decide_eq_true_eq,decide_eq_true_eq];exact⟨fun q=>Dt.l.inj q,fun q=>by rw[q]⟩
   have rc:SeqAt.RcAt A s (.ref a) (.ref b) (decide (Dt.l O=Dt.l G)):=by
    rw[eqd];by_cases Z:F.length=C.length
    ·have key:=SeqAt.RcAt.lists (e:=fun j=>decide (O[j]?=G[j]?)) p.isList Q.isList (by simpa using Z) B (vT (n:=n) r1 r2 pa pb fun x y u v d e J E h1 h2=>
      (ih (max m k) (by lia) (A:=A.in1) I (by show A.units+1+max m k<cLine;lia) J E (h1.up (Nat.le_max_left _ _)) (h2.up (Nat.le_max_right _ _))).1)
     rw[s_ (by rw[List.size_toArray];lia) (by lia)] at key;exact key
    ·
     have hne:O≠G:=fun q=>Z (by rw[q] at l3;lia);rw[decide_eq_false hne];exact SeqAt.RcAt.lists_lengths p.isList Q.isList (FC Z) B
   exact⟨lift rfl rfl rc,fun a' b' W Y=>by cases W;cases Y;exact rc⟩
  ·
   cases E;obtain⟨C,r2,Q,_⟩:=I.tuple hb;rw[decide_eq_false (fun z=>nomatch z)];exact⟨SeqAt.EqAt.list_tuple p.isList Q B,fun a' b' W Y=>by cases W;cases Y;exact SeqAt.RcAt.list_tuple p.isList Q B⟩
 ·
  cases J;obtain⟨F,r1,p,hz⟩:=I.tuple ha;rcases hy.cases with P|⟨k,hk,b,ys,G,rfl,rfl,hb,pb⟩|⟨k,hk,b,ys,G,rfl,rfl,hb,pb⟩
  ·
   rcases P with⟨rfl,rfl⟩|⟨i,rfl,rfl⟩|⟨i,rfl,rfl⟩|⟨i,rfl,rfl⟩
   ·cases E;rw[decide_eq_false (fun z=>nomatch z)];exact⟨SeqAt.EqAt.tuple_none p B,fun a b _ z=>nomatch z⟩
   ·obtain⟨t,rfl⟩:=E;rw[decide_eq_false (fun z=>nomatch z)];exact⟨SeqAt.EqAt.tuple_int _ _ p B,fun a b _ z=>nomatch z⟩
   ·obtain⟨t,rfl⟩:=E;rw[decide_eq_false (fun z=>nomatch z)];exact⟨SeqAt.EqAt.tuple_str _ _ p B,fun a b _ z=>nomatch z⟩
   ·cases E;rw[decide_eq_false (fun z=>nomatch z)];exact⟨SeqAt.EqAt.tuple_bool _ p B,fun a b _ z=>nomatch z⟩
  ·
   cases E;obtain⟨C,r2,Q,_⟩:=I.list hb;rw[decide_eq_false (fun z=>nomatch z)];exact⟨SeqAt.EqAt.tuple_list p Q.isList B,fun a' b' W Y=>by cases W;cases Y;exact SeqAt.RcAt.tuple_list p Q.isList B⟩
  ·
   cases E;obtain⟨C,r2,Q,hz2⟩:=I.tuple hb;have l1:=r1.length;have l2:=r2.length;have l3:=Paired.length pa;have l4:=Paired.length pb;have eqd:decide (Dt.t O=Dt.t G)=decide (O=G):=by
    rw[Bool.eq_iff_iff,decide_eq_true_eq,decide_eq_true_eq];exact⟨fun q=>Dt.t.inj q,fun q=>by rw[q]⟩
   have rc:SeqAt.RcAt A s (.ref a) (.ref b) (decide (Dt.t O=Dt.t G)):=by
    rw[eqd];have key:=SeqAt.RcAt.tuples (e:=fun j=>decide (O[j]?=G[j]?)) p Q B (vT (n:=n) r1 r2 pa pb fun x y u v d e J E h1 h2=>
      (ih (max m k) (by lia) (A:=A.in1) I (by show A.units+1+max m k<cLine;lia) J E (h1.up (Nat.le_max_left _ _)) (h2.up (Nat.le_max_right _ _))).1)
    by_cases Z:F.length=C.length
    ·
     rw[show min F.toArray.size C.toArray.size=O.length by rw[List.size_toArray,List.size_toArray];lia,s_ rfl (by lia),show(F.toArray.size == C.toArray.size)=true by rw[List.size_toArray,List.size_toArray,beq_iff_eq];exact Z,Bool.and_true] at key;exact key
    ·
     have hne:O≠G:=fun q=>Z (by rw[q] at l3;lia);rw[decide_eq_false hne];rw[show(F.toArray.size == C.toArray.size)=false by rw[List.size_toArray,List.size_toArray,beq_eq_false_iff_ne];exact Z,Bool.and_false] at key;exact key
   exact⟨lift rfl rfl rc,fun a' b' W Y=>by cases W;cases Y;exact rc⟩
end
def wD (K:W.Frag) (neg:Bool):R2:=fun x y H Q=>match x,y with
 | .ref a,.ref b=> ∃n d e,n<=60/\Dn K H n (.ref a) d/\Dn K H n (.ref b) e/\((d=e/\Q (.bl (!neg)) H)\/(d≠e/\Q (.bl neg) H))
 |x,y=>scal x y=true/\Q (.bl (if neg then !decide (x=y) else decide (x=y))) H
section
open Classical in
theorem U7 (m:X.A.units+64<cLine):jS X (compareOp .Eq) (wD X.K false):=by
 intro j s σ H x y v u Q I i a h;unfold wD at h;split at h
 ·
  obtain⟨n,d,e,hn,hd,he,q⟩:=h;obtain⟨_,rc⟩:=Gv n (A:=X.A) I (by lia) i a hd he;cases i;cases a;have:=rc _ _ rfl rfl;refine(this _ _ _ _ ?_);rcases q with⟨c,q⟩|⟨c,q⟩
  ·rw[decide_eq_true c];exact⟨.bl _,H,I,rfl,q⟩
  ·rw[decide_eq_false c];exact⟨.bl _,H,I,rfl,q⟩
 ·exact Yp _ s σ H _ _ v u Q I i a ⟨h.1,by simp_all⟩
open Classical in
theorem U3 (hu:X.A.units+64<cLine):jS X (compareOp .NotEq) (wD X.K true):=by
 intro F s σ H x y v u Q I rx Z h;unfold wD at h;split at h
 ·
  rename_i a b;obtain⟨n,d,e,hn,hd,he,q⟩:=h;cases rx;cases Z;have C:X.A.units<cLine:=by lia
  have fin:SeqAt.RcNeAt _ s (.ref a) (.ref b) (!decide (d=e))->wpAny (model X.prog X.w) X.A (compareOp .NotEq (.ref a) (.ref b)) (EP X F σ Q) X.xe s:=fun rc=>by
   refine(rc X.prog X.w _ _ ?_:wpAny (model X.prog X.w) X.A (richCompare .NotEq _ _) (EP X F σ Q) X.xe s);rcases q with⟨c,q⟩|⟨c,q⟩
   ·rw[decide_eq_true c];exact⟨.bl false,H,I,rfl,q⟩
   ·rw[decide_eq_false c];exact⟨.bl true,H,I,rfl,q⟩
  apply fin;clear fin q;rcases hd.cases with hx'|⟨m,hm,a',xs,J,e1,rfl,ha,pa⟩|⟨m,hm,a',xs,J,e1,rfl,ha,pa⟩
  ·rcases hx' with⟨z,_⟩|⟨i,z,_⟩|⟨i,z,_⟩|⟨i,z,_⟩<;>cases z
  ·
   cases e1;obtain⟨E,r1,p,hz⟩:=I.list ha;rcases he.cases with Y|⟨k,hk,b',ys,G,W,rfl,hb,pb⟩|⟨k,hk,b',ys,G,W,rfl,hb,pb⟩
   ·rcases Y with⟨z,_⟩|⟨i,z,_⟩|⟨i,z,_⟩|⟨i,z,_⟩<;>cases z
   ·
    cases W;obtain⟨B,U,O,hz2⟩:=I.list hb;have l1:=r1.length;have l2:=U.length;have l3:=Paired.length pa;have l4:=Paired.length pb;have P:decide (Dt.l J=Dt.l G)=decide (J=G):=by
     simp_all
    rw[P];by_cases hl:E.length=B.length
    ·have key:=SeqAt.RcNeAt.lists (e:=fun j=>decide (J[j]?=G[j]?)) p.isList O.isList (‹_›) C (vT (n:=n) r1 U pa pb fun x y u v d e rx Z h1 h2=>
      (Gv (max m k) (A:=X.A.in1) I (by show X.A.units+1+max m k<cLine;lia) rx Z (h1.up (Nat.le_max_left _ _)) (h2.up (Nat.le_max_right _ _))).1)
     rw[s_ (by simp_all) (by lia)] at key;exact key
    ·
     have hne:J≠G:=fun q=>hl (by simp_all);rw[decide_eq_false hne];exact SeqAt.RcNeAt.lists_lengths p.isList O.isList (FC hl) C
   ·
    cases W;obtain⟨B,U,O,_⟩:=I.tuple hb;rw[decide_eq_false (fun z=>nomatch z)];exact SeqAt.RcNeAt.list_tuple p.isList O C
  ·
   cases e1;obtain⟨E,r1,p,hz⟩:=I.tuple ha;rcases he.cases with Y|⟨k,hk,b',ys,G,W,rfl,hb,pb⟩|⟨k,hk,b',ys,G,W,rfl,hb,pb⟩
   ·rcases Y with⟨z,_⟩|⟨i,z,_⟩|⟨i,z,_⟩|⟨i,z,_⟩<;>cases z
   ·
    cases W;obtain⟨B,U,O,_⟩:=I.list hb;rw[decide_eq_false (fun z=>nomatch z)];exact SeqAt.RcNeAt.tuple_list p O.isList C
   ·
    cases W;obtain⟨B,U,O,hz2⟩:=I.tuple hb;have l1:=r1.length;have l2:=U.length;have l3:=Paired.length pa;have l4:=Paired.length pb;have P:decide (Dt.t J=Dt.t G)=decide (J=G):=by
     simp_all
    rw[P];have key:=SeqAt.RcNeAt.tuples (e:=fun j=>decide (J[j]?=G[j]?)) p O C (vT (n:=n) r1 U pa pb fun x y u v d e rx Z h1 h2=>
      (Gv (max m k) (A:=X.A.in1) I (by show X.A.units+1+max m k<cLine;lia) rx Z (h1.up (Nat.le_max_left _ _)) (h2.up (Nat.le_max_right _ _))).1)
    by_cases hl:E.length=B.length
    ·
     rw[show min E.toArray.size B.toArray.size=J.length by simp_all,s_ rfl (by lia),show(E.toArray.size == B.toArray.size)=true by simp_all,Bool.and_true] at key;exact key
    ·grind
 ·exact Yo F s σ H _ _ v u Q I rx Z ⟨h.1,by simp_all⟩
end
section
variable {K:W.Frag}
theorem l5 (K:W.Frag) (h:X.K=K) (a:X.A.units+64<cLine):jS X (compareOp .Eq) (wD K false):=h▸U7 a
theorem Na (K:W.Frag) (h:X.K=K) (a:X.A.units+64<cLine):jS X (compareOp .NotEq) (wD K true):=h▸U3 a
theorem IY:wD K false (.int i) (.int j) H Q=Q (.bl (decide (i=j))) H:=by
 exact ML
theorem IH:wD K true (.int i) (.int j) H Q=Q (.bl (!decide (i=j))) H:=by
 exact Mu
theorem DP:wD K false (.str i) (.str j) H Q=Q (.bl (decide (i=j))) H:=by
 exact MK
theorem IG:wD K true (.str i) (.str j) H Q=Q (.bl (!decide (i=j))) H:=by
 exact Mt
theorem Bu:bootBuiltins "ValueError" = some (.type "ValueError"):=by decide+kernel
end
theorem UT (hc:X.calm=true) (h:L9 X es t) (hn:es.length=n) (j:es.any isStar=false) (I:Inv X pins σ H s) (y:bO X.K H a xs) (m:xs.length=n) (hw:t xs σ H Q):
  wpAny (model X.prog X.w) X.A (assign (.Tuple es k pos) X.env (.ref a)) (fun _ u=> ∃d H',Inv X pins d H' u/\Q d H') X.xe s:=by
 obtain⟨i,z,x,B⟩:=I.list y;refine wpAny_bind (wpAny_standAt ?_);unfold unpack;rw[show(assignEach es _).length=i.toArray.size by rw[n9,hn,<-m,List.size_toArray,z.length],k6 j];refine wpAny_bind (wpAny_holding (W.kun_itemsOf (I.ok.hd hc) x.isList fun h' hx=>?_));have v:=I.kept (t':=s.toks) fun b o e=>hx b o (Nat.ne_of_lt (Heap.lt_size e)) e;exact h _ _ σ H xs _ Q v (‹_›) hw
def gOx (K:W.Frag) (n:Nat) (t:Uj) (a:Addr) (σ:St) (H:Hp) (Q:St->Hp->Prop):Option HO->Prop
 |some (.tup xs)=>xs.length=n/\t xs σ H Q
 |some (.lst xs)=>xs.length=n/\t xs σ H Q
 |_=> ∃xs,n_ K H a xs/\xs.length=n/\t xs σ H Q
def Lv (K:W.Frag) (n:Nat) (t:Uj):TG:=fun v σ H Q=>match v with
 | .ref a=>gOx K n t a σ H Q (H a)
 |_=>False
theorem HE {K:W.Frag}:Lv K n t (.ref a) σ H Q=gOx K n t a σ H Q (H a):=rfl
theorem NF {K:W.Frag}:gOx K n t a σ H Q (some (.tup xs))=(xs.length=n/\t xs σ H Q):=rfl
theorem NG {K:W.Frag}:gOx K n t a σ H Q (some (.lst xs))=(xs.length=n/\t xs σ H Q):=rfl
theorem sV (K:W.Frag) (i:X.K=K) (hc:X.calm=true) (hh:L9 X es u) (hn:es.length=n:=by rfl) (h:es.any isStar=false:=by rfl):PG X (.Tuple es j pos) (Lv K n u):=by
 intro d s σ H v w Q I r q;unfold Lv at q;split at q
 ·
  rename_i a;unfold gOx at q;split at q
  ·rename_i xs e;exact FP K i hc hh hn h _ s σ H _ w Q I r ⟨a,xs,rfl,n_.of e,q⟩
  ·
   rename_i xs e;obtain rfl:w=Value.ref a:=r;exact UT hc hh hn h I (bO.of e) q.1 q.2
  ·obtain⟨xs,h1,m⟩:=q;exact FP K i hc hh hn h _ s σ H _ w Q I r ⟨a,xs,rfl,h1,m⟩
 ·trivial
structure QA (X:Cx) (es:List Expr) (t:TA):Prop where
 h:PA X es t
section
theorem CN:QA X [] we:=⟨jJ⟩
theorem CL (ha:QE X e te) (hr:QA X es t) (h:isStar e=false:=by rfl):QA X (e::es) (qY te t):=⟨eQ ha.h hr.h h⟩
theorem EI (h:QA X es t):QE X (.Tuple es k pos) (Uv t):=⟨j2 h.h⟩
theorem UI (h:QA X es t):QE X (.List es pos) (Uy t):=⟨bS h.h⟩
end
def rJoin (K:W.Frag):V->List V->Hp->VK->Prop:=fun x vs H Q=>match x,vs with
 | .str z,[.ref p]=> ∃ss:List Str,bO K H p (ss.map V.str)/\(ss.map (·.length)).sum+ss.length*z.length<=1000000/\Q (.str (Txt.join z ss)) H
 |_,_=>False
theorem BD: ∀{ss:List Str} {a:List Value},Vals (ss.map V.str) a->StrsAre a ss
 | [],_,.nil=> .nil
 |_::_,_,.cons r rr=>by
  obtain⟨t,rfl⟩:=r;exact .cons _ _ (BD rr)
theorem Ni:XN X "str.join" (rJoin X.K):=by
 intro a s σ H x vs v us Q I m n h;unfold rJoin at h;split at h
 ·
  rename_i z p;obtain⟨ss,j,y,h⟩:=h;obtain⟨t,rfl⟩:=m;obtain⟨u,rfl,d⟩:=Vals.one n;obtain rfl:u=Value.ref p:=d;obtain⟨i,r,pl,B⟩:=I.list j;refine join_list pl.isList (by simpa using BD r) (by lia) fun t' k=>((⟨.str _,H,I.tok _,⟨_,rfl⟩,h⟩))
 ·trivial
noncomputable def Hw:Option Bool->Option Bool->Option Bool
 |some true,_=>some true
 |some false,o=>o
 |none,_=>none
theorem E1:Hw (some false) o=o:=rfl
theorem JD {K:W.Frag}:W.kitAny K t [c,d]=Hw (W.kitOne K t c) (W.kitOne K t d):=by
 unfold W.kitAny W.kitAny W.kitAny;cases W.kitOne K t c with
 |none=>rfl
 |some b=>
  cases b
  ·
   cases W.kitOne K t d with
   |none=>rfl
   |some b=>cases b<;>rfl
  ·rfl
section
def EH (K:W.Frag) (f:Str) (x:V) (H:Hp) (Q:VK):Prop:= ∃a,x = .ref a/\∃C dx,H a=some (.ext (oh a (.ref C) dx))/\m7 K C/\xJ K C f/\∃d,dx=some d/\∃fs,H d=some (.xd fs)/\∃v,fs.lookup f=some v/\Q v H
def Ii (K:W.Frag) (f:Str) (a:TE):TE:=fun σ H Q=>a σ H fun x d=>EH K f x d Q
theorem EG {K:W.Frag}:EH K f (.ref a) H Q= ∃C dx,H a=some (.ext (oh a (.ref C) dx))/\m7 K C/\xJ K C f/\∃d,dx=some d/\∃fs,H d=some (.xd fs)/\∃v,fs.lookup f=some v/\Q v H:=by
 apply propext;unfold EH;constructor
 ·simp_all
 ·simp_all
theorem ahh {N:Addr->Prop}:(∃x,some d=some x/\N x)=N d:=by
 simp_all
theorem Ji (K:W.Frag) (F:X.K=K) (he:PE X e ta) (hb:attributeBase e f X.env (eval e X.env)=eval e X.env):PE X (.Attribute e f pos) (Ii K f ta):=by
 subst F;intro B s σ H Q I h;refine GD hb (thn (he _ s σ H _ I h) fun u s1 ⟨x,O,i,U,a,ex,C,E,Y,g,m,dx,j,fs,G,v,l,q⟩=>?_);subst ex;subst j;obtain rfl:u=Value.ref a:=U;obtain⟨mA,hn,hr⟩:=((i.hok dx _ G));obtain⟨o,ho,Z⟩:=BX hn;obtain⟨ox,od,J,P⟩:=i.inst Y (fun d z=>by simp_all);have y:=P dx rfl;rw[ho] at y;subst y;obtain⟨u,hu,n⟩:=Bx.some_of (by rw[<-l];exact hr f);exact E5 i.l9 J g (W.findObj_own g.hd m.no rfl (by simp_all)) (B0 n) ⟨v,O,i.tok _,n,q⟩
end
section
theorem wC {K:W.Frag}:rJoin K (.str z) [.ref p] H Q= ∃ss:List Str,bO K H p (ss.map V.str)/\(ss.map (·.length)).sum+ss.length*z.length<=1000000/\Q (.str (Txt.join z ss)) H:=rfl
end
section
variable {X:Cx} (K:W.Frag)
theorem pI (h:X.K=K):XN X "str.join" (rJoin K):=h▸Ni
end
def Um (h:Heap) (e:Addr) (cls:Value) (dx:Option Addr) (T L:Addr):Prop:=
 ∃oe vs,h.get? e=some oe/\oe.cls=cls/\oe.dict=dx/\oe.data = .fields vs/\1<vs.size/\vs[1]?=some (.ref T)/\T≠e/\∃d a,h.get? T=some d/\d.data = .fields a/\a[3]?=some (rawInt L)
theorem Um.oh {h:Heap} {e:Addr} {cls:Value} {dx:Option Addr} {T L:Addr} (x:Um h e cls dx T L):oh e cls dx h:=by
 obtain⟨o,ws,i,j,d,a,_⟩:=x;exact⟨o,ws,i,j,d,a⟩
section
theorem Gu {top:Value} (j:A.frames=some (env::outer)) (y:s.heap.FunFrames base (env::outer)) (hf:env.frame=some L) (he:s.heap.get? e=some oe) (hd:oe.data = .fields vs) (hsz:1<vs.size) (h: ∀h',Um h' e oe.cls oe.dict s.heap.objs.size L->Uk ((env::outer).filterMap (·.frame)) e none s.heap h'->Q () {s with heap:=h'}):
  wpAny M A (do let a<-frameOf env;let pl<-entryPlaceOf L had;let b<-EntryCells.newEntry top a .none (rawInt L) .none pl;setField (.ref e) 1 b) Q E s:=by
 have out:e ∉ (env::outer).filterMap (·.frame):=fun hm=>by
  obtain⟨_,J,u,no⟩:=y.mem hm;cases he.symm.trans u;exact no vs hd
 refine wpAny_bind (wpAny_frameOf_fun j y hf fun k d=>wpAny_bind (wpAny_entryPlaceOf fun m n=>?_));unfold EntryCells.newEntry newFields;refine wpAny_bind (wpAny_newObj_type ?_ (n.sizeOk5 _ _ _ _ _));have B:k.get? e=some oe:=(d.2.1 e out).trans he;have i:k.objs.size≠e:=Nat.ne_of_gt (Heap.lt_size B);have x:k.objs.size=s.heap.objs.size:=d.1;have G:=Obj.data_mapFields hd (·.setIfInBounds 1 (Value.ref k.objs.size));have F:=Heap.get?_push_of_some (h:=k) (GS top L m) B;have H:=Heap.get?_update_self (Obj.mapFields (·.setIfInBounds 1 (Value.ref k.objs.size))) F (Obj.isFreed_of_fields G);have I:=(Heap.get?_update_other (k.push (GS top L m)) (Obj.mapFields (·.setIfInBounds 1 (Value.ref k.objs.size))) (Ne.symm i)).trans (Heap.get?_push_size k rfl);refine wpAny_setField F hd hsz (h _ ?_ ?_)
 ·
  rw[<-x];exact⟨_,_,H,Obj.cls_mapFields _ _,sA _ _,G,by simp[hsz],by simp[hsz],i,_,_,I,rfl,by simp⟩
 ·have keep: ∀b o,b≠e->k.get? b=some o->((k.push (GS top L m)).update e (Obj.mapFields (·.setIfInBounds 1 (Value.ref k.objs.size)))).get? b=some o:=fun b o ne hb=>by
   rw[Heap.get?_update_other _ _ (Ne.symm ne)];exact Heap.get?_push_of_some _ hb
  refine⟨fun b o v ne _ hb=>keep b o ne ((d.2.1 b v).trans hb),fun b o v hb=>?_,fun b o hb=>?_⟩
  ·
   obtain⟨C,q⟩:=d.2.2 b o hb;exact⟨C,keep b _ (fun z=>out (z▸v)) q⟩
  ·
   by_cases z:b=e
   ·
    subst z;exact⟨_,H⟩
   ·
    obtain⟨C,q⟩:=d.2.2 b o hb;exact⟨_,keep b _ z q⟩
theorem Vb (a:A.frames=some (env::outer)) (j:s.heap.FunFrames base (env::outer)) (hf:env.frame=some L) (hx:HV s.heap e cls dx n) (h: ∀h',Um h' e cls dx s.heap.objs.size L->Uk ((env::outer).filterMap (·.frame)) e n s.heap h'->Q () {s with heap:=h'}):wpAny M A (noteFrame (.ref e) env) Q E s:=by
 obtain⟨oe,vs,he,rfl,rfl,hd,hsz,ht⟩:=hx;unfold noteFrame;simp only[hf];cases n with
 |none=>
  refine wpAny_bind (wpAny_field he hd ht ?_);rw[if_neg (by decide)];exact Gu a j hf he hd hsz h
 |some T=>
  obtain⟨h1,ne,F,v,d,dT,u⟩:=ht;have apart: ∀b o,s.heap.get? b=some o->(∀ws,o.data≠ .fields ws)->b≠T:=fun b o hb no z=>by
   subst z;cases hb.symm.trans d;exact no v dT
  have out:T ∉ (env::outer).filterMap (·.frame):=fun hm=>by
   obtain⟨_,y,m,no⟩:=j.mem hm;exact apart T y m no rfl
  refine wpAny_bind (wpAny_field he hd h1 ?_);rw[if_pos (by simp)];refine wpAny_bind (wpAny_field d dT u ?_);rw[if_neg (by simp[rawInt])];refine wpAny_bind (wpAny_setField d dT (Array.getElem?_eq_some_iff.mp u).1 ?_);have oth: ∀b,b≠T->(s.heap.update T (Obj.mapFields (·.setIfInBounds 3 Value.none))).get? b=s.heap.get? b:=fun b z=>Heap.get?_update_other _ _ (Ne.symm z);have self:=Heap.get?_update_self (Obj.mapFields (·.setIfInBounds 3 Value.none)) d (Obj.isFreed_of_fields (Obj.data_mapFields dT _));have C:=j.of_keeps (h':=s.heap.update T (Obj.mapFields (·.setIfInBounds 3 Value.none))) fun b o hb no=>⟨o,(oth b (apart b o hb no)).trans hb,rfl⟩;refine Gu (oe:=oe) (vs:=vs) a C hf ((oth e (Ne.symm ne)).trans he) hd hsz fun h' x k=>?_;have sz:(s.heap.update T (Obj.mapFields (·.setIfInBounds 3 Value.none))).objs.size=s.heap.objs.size:=Heap.size_update ..;change Um h' e oe.cls oe.dict (s.heap.update T (Obj.mapFields (·.setIfInBounds 3 Value.none))).objs.size L at x;rw[sz] at x;refine h h' x ⟨fun b o i z B hb=>k.keep b o i z (fun _ q=>by cases q) ((oth b (B T rfl)).trans hb),fun b o i hb=>k.slot b o i ((oth b (fun q=>out (q▸i))).trans hb),fun b o hb=>?_⟩;by_cases q:b=T
  ·exact q▸k.there _ _ self
  ·exact k.there b o ((oth b q).trans hb)
theorem zQ (hf:env.frame=some L) (hx:Um s.heap e cls dx T L) (h:Q () s):wpAny M A (noteFrame (.ref e) env) Q E s:=by
 obtain⟨oe,vs,he,_,_,hd,hsz,h1,ne,j,i,d,dT,a⟩:=hx;unfold noteFrame;simp only[hf];refine wpAny_bind (wpAny_field he hd h1 ?_);rw[if_pos (by simp)];refine wpAny_bind (wpAny_field d dT a ?_);rw[if_pos (by simp)];exact wpAny_pure h
theorem LQ (hf:env.frame=some L) (hx:Um s.heap e cls dx T L) (h:E (.ref e) s):cameBackBy M A env E (.ref e) s:=by
 obtain⟨oe,vs,he,_,_,hd,hsz,h1,ne,n,a,i,dT,m⟩:=hx;unfold cameBackBy;refine wpAny_bind (wpAny_field he hd h1 ?_);rw[if_neg (by simp)];unfold setFlight;refine wpAny_bind (wpAny_field he hd h1 ?_);rw[if_pos (by simp),hf];refine wpAny_setField i dT (Array.getElem?_eq_some_iff.mp m).1 ?_;rw[rW i]
 ·exact h
 ·
  obtain⟨c,d,dt,u⟩:=n;obtain rfl:dt = .fields a:=dT;show Obj.mk c d (.fields (a.setIfInBounds 3 (rawInt L))) u=_;congr 1;congr 1;obtain⟨y,v⟩:=Array.getElem?_eq_some_iff.mp m;apply Array.ext (by simp);intro j h1 x;rw[Array.getElem_setIfInBounds];split
  ·rename_i z;subst z;exact v.symm
  ·rfl
end
section
theorem Fp.stay (F:Fp X pins σ H s ea cls dx v) (hk:Uk (frs X.stack) ea v s.heap h') (d:oh ea cls dx h'):Inv X pins σ H {s with heap:=h'}:=by
 obtain⟨oe,vs,he,hc,hd,a,hsz,j⟩:=F.ex;have u:=F.inv.track (φ:=HJ ea) F.nH F.n0 (fun p m=>(F.apart p m).1) ⟨oe,vs,he,a⟩ (Av ⟨oe,he⟩);have key:Inv X pins σ (upd H ea (.ext (oh ea cls dx))) {s with heap:=h'}:=by
  cases v with
  |none=>
   have i:=u.left (T:=none) (fun t z=>by cases z) aa hk d;have e:upd (upd H ea (.ext (HJ ea))) ea (.ext (oh ea cls dx))=upd H ea (.ext (oh ea cls dx)):=by
    funext b;unfold upd;split<;>rfl
   rw[e] at i;exact i
  |some T=>
   obtain⟨h1,ne,n,y,j,dT,E⟩:=j;obtain⟨t0,tH⟩:=F.tbs T rfl;have i:=u.track (φ:=HJ T) (by rw[ah ne];exact tH) t0 (fun p m=>(F.apart p m).2 T rfl) ⟨n,y,j,dT⟩ (Av ⟨n,j⟩);have C:=i.left (T:=some T) (fun t z=>by cases z;exact aa) (by rw[ah (Ne.symm ne)];exact aa) hk d;have x:=C.drop (e:=T) (φ:=HJ T) (by rw[ah ne];exact aa);have e:lg (upd (upd (upd H ea (.ext (HJ ea))) T (.ext (HJ T))) ea (.ext (oh ea cls dx))) T=upd H ea (.ext (oh ea cls dx)):=by
    funext b;unfold lg upd;by_cases z:b=T
    ·subst z;simp[ne,tH]
    ·by_cases B:b=ea<;>simp[z,B,Ne.symm ne]
   rw[e] at x;exact x
 have k2:=key.drop (e:=ea) (φ:=oh ea cls dx) aa;rw[HK F.nH] at k2;exact k2
structure ahy (X:Cx) (pins:List (Addr×Obj)) (σ:St) (H:Hp) (s:Shared) (ea:Addr) (cls:Value) (dx:Option Addr) (T L:Addr):Prop where
 inv:Inv X pins σ H s
 ex:Um s.heap ea cls dx T L
 n0:X.s₀.heap.get? ea=none
 nH:H ea=none
 t0:X.s₀.heap.get? T=none
 tH:H T=none
 apart: ∀p∈X.pn++pins,p.1≠ea/\p.1≠T
def fxe (X:Cx) (E:XK):Value->Shared->Prop:=fun e s=> ∃d cls dx H,e = .ref d/\((∃a σ i,Fp X a σ H s d cls dx i)\/∃a σ T L,X.env.frame=some L/\ahy X a σ H s d cls dx T L)/\E cls dx H
noncomputable abbrev Cx.fly (X:Cx) (E:XK):Cx:=X.wish (fxe X E)
theorem Fp.unwish (F:Fp (X.wish E') pins σ H s ea cls dx tb):Fp X pins σ H s ea cls dx tb:=⟨F.inv.unwish,F.ex,F.n0,F.nH,F.tbs,F.apart⟩
theorem Iv {X:Cx}:Rz (X.fly E) E:=fun a σ H s i cls dx j F d=>⟨i,cls,dx,H,rfl,.inl ⟨a,σ,j,F.unwish⟩,d⟩
theorem zI (d:X.stack=X.env::outer) (hf:X.env.frame=some L):PassesOwn (model X.prog X.w) X.A X.env (fxe X E):=by
 rintro e s ⟨u,cls,dx,H,rfl,F|F,m⟩
 ·
  obtain⟨a,σ,v,F⟩:=F;have I:=F.inv;have n:=I.ok.frames;have st:=I.stack;rw[d] at n st;refine Vb (base:=X.base) n st hf F.ex fun h' hx hk=>LQ hf hx ?_;refine⟨u,cls,dx,H,rfl,.inr ⟨a,σ,_,L,hf,⟨F.stay (by rw[d];exact hk) hx.oh,hx,F.n0,F.nH,Heap.get?_none_of_le I.sz,I.hok.fresh (Nat.le_refl _),fun p j=>⟨(F.apart p j).1,?_⟩⟩⟩,m⟩;exact Nat.ne_of_lt (Heap.lt_size (I.pin p j).1)
 ·
  obtain⟨a,σ,T,x,i,F⟩:=F;rw[hf] at i;cases i;exact zQ hf F.ex (LQ hf F.ex ⟨u,cls,dx,H,rfl,.inr ⟨a,σ,T,L,hf,F⟩,m⟩)
def RzM (X:Cx) (E:XK):Prop:= ∀a σ H s d cls dx T L,X.env.frame=some L->ahy X a σ H s d cls dx T L->E cls dx H->X.xe (.ref d) s
theorem PS.fly {st:Stmt} (i:Rz X E) (hm:RzM X E) (h:PS (X.fly E) st ts):PS X st ts:=fun a s σ H D I hw=>
 wpAny_mono (h a s σ H D (I.wish _) hw) (fun _ _ q=>q.unwish) fun e j z=>by
  obtain⟨n,cls,dx,H',rfl,F|F,d⟩:=z
  ·
   obtain⟨a,σ,m,F⟩:=F;exact i _ _ _ _ _ _ _ _ F d
  ·
   obtain⟨a,σ,T,L,hf,F⟩:=F;exact hm _ _ _ _ _ _ _ _ _ hf F d
end
section
theorem Iw {H:Hp} {s:Shared} {P:Program} {w:World} {K:W.Frag} {mg:Str->Option Value} {base:Heap} {N:List Str} {qual:Str} {scope:Scope} {f:Addr} {cd:Value} {A:Around} {outer:List Env} {E:XK}:RzM (yP (HY P w) P w K mg base N qual scope f cd A outer s H E) E:=by
 intro G σ j s1 i cls dx T L m F X;have I:=F.inv;obtain rfl:s.heap.objs.size=L:=Option.some.inj m;show wpAny (model P w) (A.deeper (envOfC qual scope s.heap.objs.size f cd)) (leaving (envOfC qual scope s.heap.objs.size f cd) (.ref i)) _ _ s1;have st:=I.stack;have x: ∀b∈frs (envOfC qual scope s.heap.objs.size f cd::outer),j b=none:=I.uQ;refine wpAny_bind (zQ (L:=s.heap.objs.size) rfl F.ex ?_);obtain⟨oe,vs,he,hc,y,hd,hsz,h1,ne,Y,J,v,dT,U⟩:=F.ex;have C:=(Array.getElem?_eq_some_iff.mp U).1;have apart: ∀b o,s1.heap.get? b=some o->(∀ws,o.data≠ .fields ws)->b≠T:=fun b o hb no z=>by
  subst z;cases hb.symm.trans v;exact no J dT
 unfold setFlight;refine wpAny_bind (wpAny_field he hd h1 ?_);rw[if_pos (by simp)];refine wpAny_setField v dT C ?_;have oth: ∀b,b≠T->(s1.heap.update T (Obj.mapFields (·.setIfInBounds 3 Value.none))).get? b=s1.heap.get? b:=fun b z=>Heap.get?_update_other _ _ (Ne.symm z);have self:=Heap.get?_update_self (Obj.mapFields (·.setIfInBounds 3 Value.none)) v (Obj.isFreed_of_fields (Obj.data_mapFields dT _));change HY P w outer H s E (.ref i) {s1 with heap:=s1.heap.update T (Obj.mapFields (·.setIfInBounds 3 Value.none))};generalize s1.heap.update T (Obj.mapFields (·.setIfInBounds 3 Value.none))=h' at*
 have hx:HV h' i cls dx (some T):=⟨oe,vs,(oth i (Ne.symm ne)).trans he,hc,y,hd,hsz,h1,ne,_,_,self,Obj.data_mapFields dT _,by simp[C]⟩;have d: ∀b o,s.heap.get? b=some o->b≠T:=fun b o e z=>by
  have h1:s.heap.get? T=none:=F.t0;rw[z,h1] at e;cases e
 have B:Un (frs outer) [] H j s.heap s1.heap:=I.base;refine⟨i,cls,dx,T,j,rfl,I.os,I.bare,⟨fun b o q n hb hx=>?_,fun b o q n hb hx=>?_,B.free,fun b o q hx=>?_,B.tups,B.frzs,B.tbls⟩,fun b o q=>?_,hx,⟨F.n0,F.t0,F.nH,F.tH⟩,X⟩
 ·exact(oth b (d b o q)).trans (B.keep b o q n hb hx)
 ·
  obtain⟨O,e⟩:=B.slot b o q n hb hx;exact⟨O,(oth b (d b o q)).trans e⟩
 ·
  obtain⟨Q,e⟩:=B.there b o q hx;exact⟨Q,(oth b (d b o q)).trans e⟩
 ·
  have a: ∀c u,j c=some u->c≠T:=fun c u e z=>by rw[z,F.tH] at e;cases e
  refine(I.hok b o q).stay (fun c u hc e=>?_) (fun c e=>e) (fun c xs e=>e);rcases hc with z|z
  ·
   subst z;exact(oth _ (a _ _ q)).trans e
  ·exact(oth _ (a _ _ z)).trans e
end
def wb (K:W.Frag) (C:Addr):Prop:=W.findIn K (.ref C) "__init__" = some (some (.builtin "object.__init__"))
theorem Jp {K:W.Frag} (h:W.findIn K (.ref C) "__init__" = some (some (.builtin "object.__init__"))):wb K C:=h
def XW (C:Addr):TE:=fun _ H Q=> ∀x dx,H x=none->H dx=none->dx≠x->Q (.ref x) (upd (upd H dx (.own x)) x (.ins C dx []))
section
theorem U0 (c:cE X.K X.mg x C) (i:wb X.K C) (hg:Gl X x) (a:(x == ("__debug__" : Str))=false:=by decide):PE X (.Call (.Name x p) [] [] pos) (XW C):=by
 intro d s σ H Q I h;refine wpAny_Call_Name_kw (jy I hg c.Hs ?_ a);have m:=h (s.heap.objs.size+1) s.heap.objs.size (I.hok.fresh (Nat.le_succ _)) (I.hok.fresh (Nat.le_refl _)) (Nat.ne_of_lt (Nat.lt_succ_self _));have j:=Inv.made (C:=C) I;refine W.callWith_K0 (first:=[]) I.l9 c.kp (wpAny_call (Hu I.l9 c.mks i (fun self=>W.Looks.of_pure (W.oi_bind self)) ?_))
 have Y:=W.makes_of (M:=model X.prog X.w) I.l9 c.mks;have hx:((s.heap.push W.emptyDict).push (W.instObj C s.heap.objs.size)).get? (s.heap.objs.size+1)=some (W.instObj C s.heap.objs.size):=by heap_get
 have n:W.Looks (model X.prog X.w) ((s.heap.push W.emptyDict).push (W.instObj C s.heap.objs.size)) (typeOf (.ref (s.heap.objs.size+1))) (.ref C):=(W.Looks.ld hx).andThen .now;have t2:W.Looks (model X.prog X.w) ((s.heap.push W.emptyDict).push (W.instObj C s.heap.objs.size)) (isInstance (.ref (s.heap.objs.size+1)) (.type "object")) true:=n.andThen (Y.top.keeps fun b o e=>Heap.get?_push_of_some _ (Heap.get?_push_of_some _ e));refine codeAny_call_builtin W.oi_plain W.entry_oi (@W.check_slot (model X.prog X.w) _ _ _ "object.__init__" "object" "__init__" (.ref (s.heap.objs.size+1)) [] [] _ W.oi_kind W.oi_split t2 (W.oi_args (.ref (s.heap.objs.size+1))) ?_);rw[W.oi_run];exact wpAny_pure (And.intro rfl ⟨.ref _,_,j,rfl,m⟩)
def XC (P:Program) (w:World) (K:W.Frag) (mg:Str->Option Value) (base:Heap) (CX:Em) (m:Str) (n:Nat) (sp:Sp):Prop:= ∀x H Q E,sp [x] H Q E->
 ∃a C dx fs k i d,x = .ref a/\H a=some (.ins C dx fs)/\fs.lookup m=none/\k<=n/\Uo K C/\uM P w K mg base CX C m k i d/\d [.ref a] H Q E
def Ux (sp:Sp) (E:XK) (a:TE):TE:=fun σ H Q=>a σ H fun x d=>sp [x] d Q E
theorem M3 (he:PE X o ta) (G:XC X.prog X.w X.K X.mg X.base CX m k sp) (hr:cG n X.A) (hk:k<=n) (y:Passes CX X E) (ht:eval (.Call (.Attribute o m apos) [] [] pos) X.env=(do
   let ov<-eval o X.env
   standAt apos.atName
   let (f,first)<-holding [ov] (getMethod ov m pl)
   callWith pos f first (backTo pos (starEach [] X.env)) (backToKw pos (keywordEach [] X.env)))):
  PE X (.Call (.Attribute o m apos) [] [] pos) (Ux sp E ta):=by
 intro d s σ H Q I h;refine W.methodCall_KW (pl:=pl) (lY (he d s σ H _ I h) fun u s1 x P i z q=>?_) ht;obtain⟨a,C,dx,fs,U,O,v,rfl,B,l,j,c,⟨f,J,F,hm,b⟩,q⟩:=G _ _ _ _ q;obtain rfl:u=Value.ref a:=z;refine qs i B c hm l ?_;exact W.callWith_K0 (first:=[.ref a]) i.l9 hm.kp (CF (us:=[.ref a]) (vs:=[.ref a]) F (hr.mono (Nat.le_trans j hk)) b .nil y i (.cons rfl .nil) q)
theorem UW [Quiet CX] (he:PE X o ta) (G:XC X.prog X.w X.K X.mg X.base CX m k sp) (hr:cG n X.A) (hk:k<=n) (ht:eval (.Call (.Attribute o m apos) [] [] pos) X.env=(do
   let ov<-eval o X.env
   standAt apos.atName
   let (f,first)<-holding [ov] (getMethod ov m pl)
   callWith pos f first (backTo pos (starEach [] X.env)) (backToKw pos (keywordEach [] X.env))):=by rfl):
  PE X (.Call (.Attribute o m apos) [] [] pos) (Ux sp E0 ta):=M3 he G hr hk (Quiet.pass X) ht
end
structure alO (K:W.Frag) (D:Addr):Prop where
 hg:W.plainGet K D "__class__" = true
 hd:W.hasDictIn K D=true
 ha:W.findIn K (.ref D) "__class__" = some (some (.builtin "object.__class__"))
 hn:W.specialIn K (.builtin "object.__class__") "__get__" = some (some (.builtin "getset_descriptor.__get__"))
 htk:W.takesIn K (.builtin "object.__class__")=some true
 hm:W.mroIn K D (.type "object")=some true
theorem ahB {K:W.Frag} (a:W.plainGet K D "__class__" = true) (b:W.hasDictIn K D=true) (c:W.findIn K (.ref D) "__class__" = some (some (.builtin "object.__class__"))) (d:W.specialIn K (.builtin "object.__class__") "__get__" = some (some (.builtin "getset_descriptor.__get__"))) (e:W.takesIn K (.builtin "object.__class__")=some true) (f:W.mroIn K D (.type "object")=some true):alO K D:=⟨a,b,c,d,e,f⟩
section
theorem Yi (ho:jS X (binaryOp op) r) (ha:QE X a ta) (hb:QE X b tb):QE X (.BinOp a op b pos) (GJ r ta tb):=⟨bz ho ha.h hb.h⟩
end
theorem qex (h:XM X l t) (z:t D σ H): ∃t,ya X l t/\t D σ H:=⟨t,h.h,z⟩
def tHn (K:W.Frag) (C:Addr) (d:TS) (i:TH):TH:=fun D σ cls dx H=>Nq (isx K cls C) (∀a,H a=none->d D σ (upd H a (.ext (oh a cls dx)))) (i D σ cls dx H)
section
theorem Je {X:Cx} {K:W.Frag} {x:Str} {C:Addr} {P pos:Pos} {i:Stmt} {body:List Stmt} {rest:List ExceptHandler} {E:TS} {B:TH} (J:X.K=K) (m:qI X.K X.mg x C) (hg:Gl X x)
  (O: ∀e,ya (X.hand e) (i::body) E) (hr:PH X rest B) (y:(x == ("__debug__" : Str))=false:=by decide):PH X (.ExceptHandler (some (.Name x P)) none (i::body) pos::rest) (tHn K C E B):=by
 subst J;intro d s σ H D j cls dx T I hx F h;have ok:=I.ok;have G:Inv (X.hand (.ref j)) d σ (upd H j (.ext (oh j cls dx))) s:=I.hand;obtain⟨oe,vs,he,hc,_⟩:=id hx;refine wpAny_handleBy_cons (codeAny_handlers_test (jy (X:=X.hand (.ref j)) G hg m.Hs ?_ y)) (by intro q;cases q);unfold tHn at h;cases hb:isx X.K cls C with
 |none=>rw[hb] at h;exact h.elim
 |some b=>
  rw[hb] at h;refine xmatch I.l9 he m (by rw[hc];exact hb) ?_;cases b with
  |false=>exact hr d s σ H D j cls dx T I hx F h
  |true=>
   refine codeAny_handlers_suite (z7 hx ?_);refine wpAny_mono (O (.ref j) d s _ _ _ G (h j F)) (fun f Q q=>?_) fun _ _ z=>z.elim;cases f with
   |next=>obtain⟨a,H',n,q⟩:=q;exact⟨a,H',n.unhand ok,q⟩
   |brk=>obtain⟨a,H',n,q⟩:=q;exact⟨a,H',n.unhand ok,q⟩
   |cont=>obtain⟨a,H',n,q⟩:=q;exact⟨a,H',n.unhand ok,q⟩
   |ret u=>obtain⟨v,a,H',n,r,q⟩:=q;exact⟨v,a,H',n.unhand ok,r,q⟩
end
section
variable {St:Nat->Heap->Prop}
theorem yW:(toString "max" ++toString ".loop" : String) = "max.loop" :=by decide
theorem Jr (d:Value) (W:Walks prog w A.in1 I fp wr n P St) (H:Nat->Nat->Bool) (O:CmpOf prog w A.in1 .Gt P H) (S:Addr) (J:S ∉ fp) (k:Nat):
  ∀(j:Nat) (s:Shared) (best:Value) (c:Nat),n=j+1+k->St (j+1) s.heap->P (argBest H j) best->s.heap.get? S=some ⟨.type "list",none,.seq #[best,best] c,#[]⟩->
  (∀v h' tk,P (argBest H (n - 1)) v->(∀b o,b ∉ wr->b≠S->s.heap.get? b=some o->h'.get? b=some o)->R (.ok (.ret v)) {s with heap:=h',toks:=tk})->
  codeAny (model prog w) A (.builtin "max.loop" ⟨[.ref I,.none,.ref S],[("default",d)]⟩) R s:=by
 have U:S ∉ wr:=fun h=>J (W.sub _ h)
 induction k with
 |zero=>
  intro j s best c hn B hb Q X;subst hn;refine codeAny_builtin F.entry_max_loop ?_;rw[Around.under_plainId F.plain_max_loop _];refine wpAny_bind (m:=seqItems? (.ref S)) (wpAny_seqItems Q rfl ?_);refine wpAny_bind (wpAny_tryCatch (W.done s _ _ B fun h' tk i=>?_));refine wpAny_bind (m:=updateSeq S fun _=>#[]) (wpAny_updateSeq (i S _ U Q) rfl (wpAny_bind (wpAny_letGo (wpAny_pure ?_))));exact X best _ tk hb fun b o a u e=>(Heap.get?_update_other _ _ (Ne.symm u)).trans (i b o a e)
 |succ k ih=>
  intro j s best c hn B hb Q X;refine codeAny_builtin F.entry_max_loop ?_;rw[Around.under_plainId F.plain_max_loop _];refine wpAny_bind (m:=seqItems? (.ref S)) (wpAny_seqItems Q rfl ?_);refine wpAny_bind (wpAny_tryCatch (W.item (j+1) s _ _ (by lia) B fun v h' tk hP x i=>?_));have E:=i S _ U Q;refine wpAny_bind (wpAny_pure ?_);refine wpAny_bind (wpAny_tryCatch (wpAny_holding (wpAny_bind (m:=richCompare .Gt v best) (O (j+1) (argBest H j) v best _ _ _ hP hb ?_))));refine wpAny_bind (wpAny_holding (wpAny_truthy_bool ?_));refine wpAny_bind (wpAny_letGo (wpAny_pure ?_));cases e:H (j+1) (argBest H j) with
  |true=>
   rw[if_pos rfl];refine wpAny_bind (wpAny_updateSeq E rfl (wpAny_bind (wpAny_letGo ?_)));rw[yW];refine wpAny_pure ⟨plainId_quiet F.plain_max_loop _,ih (j+1) _ v _ (by lia) (W.frame _ _ _ x fun b hbf o q=>?_) (by rw[argBest,e,if_pos rfl];exact hP) (Heap.get?_update_self _ E rfl) fun Z Y y C G=>?_⟩
   ·exact(Heap.get?_update_other _ _ (fun z:S=b=>J (by rw[z];exact hbf))).trans q
   ·exact X Z Y y C fun b o a u q=>G b o a u ((Heap.get?_update_other _ _ (Ne.symm u)).trans (i b o a q))
  |false=>
   rw[if_neg Bool.false_ne_true];refine wpAny_bind (wpAny_letGo ?_);rw[yW];refine wpAny_pure ⟨plainId_quiet F.plain_max_loop _,ih (j+1) _ best c (by lia) x (by rw[argBest,e,if_neg Bool.false_ne_true];exact hb) E fun Z Y y C G=>?_⟩;exact X Z Y y C fun b o a u q=>G b o a u (i b o a q)
theorem Hq (d:Value) (W:Walks prog w A.in1 I fp wr n P St) (G:Nat->Nat->Bool) (u:CmpOf prog w A.in1 .Gt P G) (S:Addr) (j:S ∉ fp) (x:St 0 s.heap) (X:s.heap.get? S=some ⟨.type "list",none,.seq #[] c,#[]⟩) (U: ∀v h' tk,(n=0/\v=d\/0<n/\P (argBest G (n - 1)) v)->(∀b o,b ∉ wr->b≠S->s.heap.get? b=some o->h'.get? b=some o)->R (.ok (.ret v)) {s with heap:=h',toks:=tk}):
  codeAny (model prog w) A (.builtin "max.loop" ⟨[.ref I,.none,.ref S],[("default",d)]⟩) R s:=by
 have O:S ∉ wr:=fun h=>j (W.sub _ h);refine codeAny_builtin F.entry_max_loop ?_;rw[Around.under_plainId F.plain_max_loop _];refine wpAny_bind (m:=seqItems? (.ref S)) (wpAny_seqItems X rfl ?_);by_cases hn:n=0
 ·
  subst hn;refine wpAny_bind (wpAny_tryCatch (W.done s _ _ x fun h' tk i=>?_));refine wpAny_bind (wpAny_rule (wpAny_pure ?_));exact U d h' tk (.inl ⟨rfl,rfl⟩) fun b o a _ e=>i b o a e
 ·
  refine wpAny_bind (wpAny_tryCatch (W.item 0 s _ _ (by lia) x fun v h' tk hP y i=>?_));have B:=i S _ O X;refine wpAny_bind (wpAny_pure ?_);refine wpAny_bind (m:=updateSeq S fun _=>#[v,v]) (wpAny_updateSeq B rfl ?_);rw[yW];refine wpAny_pure ⟨plainId_quiet F.plain_max_loop _,Jr d W G u S j (n - 1) 0 _ v _ (by lia) (W.frame _ _ _ y fun b H o q=>?_) hP (Heap.get?_update_self _ B rfl) fun Z Y E J Q=>?_⟩
  ·exact(Heap.get?_update_other _ _ (fun z:S=b=>j (by rw[z];exact H))).trans q
  ·exact U Z Y E (.inr ⟨by lia,J⟩) fun b o a C q=>Q b o a C ((Heap.get?_update_other _ _ (Ne.symm C)).trans (i b o a q))
end
section
theorem Jt (a v:Value):argsOk "max" ⟨[a],[(Str.ofString "default",v)]⟩:=by unfold argsOk;kernel_rfl
theorem Js (hh:A.handled=none) (x:s.heap.IsList l (intItems xs)) (h: ∀v h' tk,(xs.size=0/\v=d\/0<xs.size/\(intItems xs)[argBest (fun i j=>decide (numAt xs i > numAt xs j)) (xs.size - 1)]?=some v)->(∀b o,s.heap.get? b=some o->h'.get? b=some o)->Q v {s with heap:=h',toks:=tk}):
  wpAny (model prog w) A (call (.builtin "max") [.ref l] [(Str.ofString "default",d)]) Q E s:=by
 refine kmb_tree F.kind_max F.plain_max F.entry_max (Jt _ _) ?_;refine wpAny_bind (wpAny_of_eq (show Builtin.Builtins.bindParams "max" ["key","default"] 0 ⟨[],[(Str.ofString "default",d)]⟩=pure [none,some d] from rfl) ?_);refine wpAny_bind (wpAny_pure ?_);refine wpAny_bind (iter_intList x fun n e st a m=>?_);subst e;refine wpAny_bind (wpAny_newObj_type ?_);rw[yW];have W:=Walks.list (prog:=prog) (w:=w) (A:=A.in1) hh _ l m (intItems xs);have hsz:(intItems xs).size=xs.size:=by simp[intItems]
 refine wpAny_pure ⟨plainId_quiet F.plain_max_loop _,Hq d W (fun i j=>decide (numAt xs i > numAt xs j)) (CmpOf.ints_gt (numAt xs) (fun _ _=>intItems_at)) _ (fun hm=>Nat.lt_irrefl _ (a _ hm)) (W.frame _ _ _ st fun b _ o q=>Heap.get?_push_of_some _ q) (Heap.get?_push_size _ rfl) fun v h' tk u hk=>?_⟩;rw[hsz] at u;refine h v h' tk u (old_kept (l:=l) fun b o hb q=>?_);exact hk b o hb (Nat.ne_of_lt (Heap.lt_size q)) (Heap.get?_push_of_some _ q)
end
def FH (K:W.Frag):List V->List V->Hp->VK->Prop:=fun vs i H Q=>match vs,i with
 | [.ref p],[d]=> ∃ns:List Int,bO K H p (ns.map V.int)/\(ns= []->Q d H)/\(0<ns.length->∀M,M∈ns->(∀a,a∈ns->a<=M)->Q (.int M) H)
 |_,_=>False
def N1 (K:W.Frag) (t d:TA):TE:=fun σ H Q=>t σ H fun vs j=>d σ j fun i a=>FH K vs i a Q
theorem GZ {K:W.Frag}:FH K [.ref p] [d] H Q= ∃ns:List Int,bO K H p (ns.map V.int)/\(ns= []->Q d H)/\(0<ns.length->∀M,M∈ns->(∀a,a∈ns->a<=M)->Q (.int M) H):=rfl
section
theorem M6 (K:W.Frag) (O:X.K=K) (hc:X.calm=true) (hg:Gl X "max") (hm:X.mg "max" = none) (ha:PA X [e] t) (hd:PE X d td) (E:isStar e=false:=by rfl):
  PE X (.Call (.Name "max" p) [e] [⟨some "default",d,kp⟩] pos) (N1 K t (qY td we)):=by
 subst O;intro i s σ H Q I h;refine wpAny_Call_Name_kw (t9 I hg hm Az ?_);refine callWith_kw (lY (ha pos i s σ H _ I h) fun us s1 vs U P r1 q1=>lY (MW hd UN pos i s1 σ U _ P q1) fun ws s2 ds y n r2 q2=>?_) (by rw[bL E];rfl) (by rw[bL E];rfl);replace q2:FH X.K vs ds y Q:=q2;unfold FH at q2;split at q2
 ·
  rename_i p d;obtain⟨ns,hS,k1,k2⟩:=q2;obtain⟨u,rfl,F⟩:=vals1 r1;cases F;obtain⟨dv,rfl,Z⟩:=vals1 r2;obtain⟨J,r,pl,hz⟩:=n.list hS;have C:=z3 r;have B:=pl.isList;obtain⟨xs,e⟩:=C.allInts.items;have m:ns=xs.toList.map (·.1):=by rw[<-C.numsOf,<-nums_intItems,<-e]
  have hsz:ns.length=xs.size:=by rw[m,List.length_map,Array.length_toList]
  rw[e] at B;refine Js (n.ok.hd hc) B fun v h' tk x hk=>?_;rcases x with⟨z,rfl⟩|⟨z,x⟩
  ·exact⟨d,y,n.kept (t':=tk) hk,Z,k1 (List.length_eq_zero_iff.mp (by lia))⟩
  ·
   obtain⟨t,rfl⟩:=intItems_at x;obtain⟨h1,G⟩:=argBest_gt (numAt xs) (xs.size - 1);refine⟨.int _,y,n.kept (t':=tk) hk,⟨t,rfl⟩,k2 (by lia) _ ?_ fun a ha=>?_⟩
   ·rw[m,numAt_eq];exact getD_mem (by rw[List.length_map,Array.length_toList];lia)
   ·
    rw[m] at ha;obtain⟨j,Y,rfl⟩:=mem_getD ha;rw[List.length_map,Array.length_toList] at Y;rw[<-numAt_eq];exact G j (by lia)
 ·exact q2.elim
end
noncomputable def anyS:List (Option Bool)->Option Bool
 | []=>some false
 |some true::_=>some true
 |some false::r=>anyS r
 |none::_=>none
structure XJ (K:W.Frag) (C:Addr):Prop where
 ty:W.typeIn K (.ref C)=some (.type "type")
 ex:W.mroIn K C (.type "BaseException")=some true
theorem qI.c {K:W.Frag} (m:qI K mg x C):XJ K C:=⟨m.ty,m.ex⟩
section
variable {K:W.Frag}
theorem XJ.exc (m:XJ K C) (X:K.In s.heap) (h:Q true s):wpAny (model prog w) A (isExcClass (.ref C)) Q E s:=by
 have a:W.Looks (model prog w) _ _ _:=W.looks_mroIn X m.ex;have L2:W.Looks (model prog w) s.heap (isType (.ref C)) true:=by
  have z:=m.ex;obtain⟨cd,hc,_⟩:=Option.bind_eq_some_iff.mp z;unfold W.clsIn at hc;split at hc
  ·
   rename_i ho;intro n d i j k q;exact wpAny_bind (wpAny_loadPart (k _ _ (X _ _ ho)) (wpAny_pure q))
  ·cases hc
 refine wpAny_bind (L2.here ?_);exact a.here h
theorem Hx {s:Shared} (X:K.In s.heap) (hb:isx K cls C=some b):W.Looks (model prog w) s.heap (isSubtype cls (.ref C)) b:=by
 unfold isx at hb;split at hb
 ·exact W.looks_mroIn X hb
 ·cases hb
theorem Gr {g:Value->Sem (ForInStep PUnit)} (X:K.In s.heap): ∀{Cs:List Addr},(∀C∈Cs,XJ K C)->Q ⟨⟩ s->
  wpAny (model prog w) A (forIn (Cs.map Value.ref) PUnit.unit fun c _=>isExcClass c >>= fun y=>if(!y)=true then g c else pure (ForInStep.yield PUnit.unit)) Q E s
 | [],_,h=>by
  exact wpAny_pure h
 |C::Cs,hm,h=>by
  rw[List.map_cons,List.forIn_cons];refine wpAny_bind (wpAny_bind ((hm C (List.mem_cons_self ..)).exc X ?_));refine wpAny_pure ?_;exact Gr X (fun D hD=>hm D (List.mem_cons_of_mem _ hD)) h
theorem Fx (X:K.In s.heap): ∀{Cs:List Addr},anyS (Cs.map (isx K cls))=some b->Q (if b then some true else none,()) s->
  wpAny (model prog w) A (forIn (Cs.map Value.ref) ((none,()):Option Bool×Unit) fun c _=>isSubtype cls c >>= fun y=>if y=true then pure (ForInStep.done (some true,())) else pure (ForInStep.yield (none,()))) Q E s
 | [],e,h=>by
  cases e;exact wpAny_pure h
 |C::Cs,e,h=>by
  rw[List.map_cons] at e;rw[List.map_cons,List.forIn_cons];cases a:isx K _ C with
  |none=>rw[a] at e;cases e
  |some c=>
   rw[a] at e;refine wpAny_bind (wpAny_bind ((Hx X a).here ?_));cases c with
   |true=>
    cases e;exact wpAny_pure (wpAny_pure h)
   |false=>
    refine wpAny_pure ?_;exact Fx X e h
theorem L_ {Cs:List Addr} (X:K.In s.heap) (he:s.heap.get? e=some oe) (ht:s.heap.get? t=some ⟨.type "tuple",none,.seq (Cs.map Value.ref).toArray n,#[]⟩) (hm: ∀C∈Cs,XJ K C) (hb:anyS (Cs.map (isx K oe.cls))=some b) (h:Q b s):
  wpAny (model prog w) A (excMatches (.ref e) (.ref t)) Q E s:=by
 have a:W.Looks (model prog w) s.heap (isInstance (.ref t) (.type "tuple")) true:=((W.Looks.ld ht).andThen .now).andThen (W.Looks.of_pure (rfl));have d:W.Looks (model prog w) s.heap (typeOf (.ref e)) oe.cls:=(W.Looks.ld he).andThen .now;refine wpAny_bind (a.here ?_);refine wpAny_bind (wpAny_seqItems ht rfl ?_);refine wpAny_bind (wpAny_pure ?_);refine wpAny_bind ?_;refine Gr (Cs:=Cs) X hm ?_;refine wpAny_bind (d.here ?_);refine wpAny_bind (Fx (Cs:=Cs) X hb ?_);cases b with
 |true=>exact wpAny_pure h
 |false=>exact wpAny_pure h
end
def NmL (X:Cx) (d:List Expr) (Cs:List Addr):Prop:=(∀C∈Cs,XJ X.K C)/\∀(e:Value) (pos:Pos) (a:List (Addr×Obj)) (s:Shared) (σ:St) (H:Hp) (Q:List Value->Shared->Prop) (E:Value->Shared->Prop),
 Inv (X.hand e) a σ H s->Q (Cs.map Value.ref) s->wpAny (model X.prog X.w) (X.hand e).A (spliced (backTo pos (starEach d X.env))) Q E s
section
theorem Vc:NmL X [] []:=⟨(fun _ h=>nomatch h),fun _ _ _ _ _ _ _ _ _ h=>Calls.spliced_nil h⟩
theorem FZ (m:qI X.K X.mg x C) (hg:Gl X x) (hr:NmL X es Cs) (a:(x == ("__debug__" : Str))=false:=by decide):NmL X (.Name x np::es) (C::Cs):=by
 refine⟨fun D hD=>?_,fun e pos d s σ H Q E I h=>?_⟩
 ·
  rcases List.mem_cons.mp hD with rfl|hD
  ·exact m.c
  ·exact hr.1 D hD
 ·
  refine Calls.spliced_cons (jy I hg m.Hs ?_ a);exact hr.2 e _ _ s σ H _ E I h
def tHt (K:W.Frag) (Cs:List Addr) (d:TS) (i:TH):TH:=fun D σ cls dx H=> ∀t,H t=none->Nq (anyS (Cs.map (isx K cls))) (∀a,upd H t (.tup (Cs.map V.ref)) a=none->d D σ (upd (upd H t (.tup (Cs.map V.ref))) a (.ext (oh a cls dx)))) (i D σ cls dx (upd H t (.tup (Cs.map V.ref))))
theorem H_ (h:a≠b):upd (upd H a o) b u=upd (upd H b u) a o:=by
 funext c;by_cases i:c=b
 ·subst i;rw[aa,ah (Ne.symm h),aa]
 ·
  rw[ah i];by_cases d:c=a
  ·subst d;rw[aa,aa]
  ·rw[ah d,ah d,ah i]
theorem BN: ∀{Cs:List Addr},Vals (Cs.map V.ref) (Cs.map Value.ref)
 | []=> .nil
 |_::_=> .cons rfl BN
theorem UQ {X:Cx} {K:W.Frag} {P:List Expr} {Cs:List Addr} {j:_} {np pos:Pos} {d:Stmt} {body:List Stmt} {rest:List ExceptHandler} {Y:TS} {Q:TH} (hK:X.K=K) (hn:NmL X P Cs) (hz:Cs.length<=100)
  (hs: ∀e,ya (X.hand e) (d::body) Y) (hr:PH X rest Q):PH X (.ExceptHandler (some (.Tuple P j np)) none (d::body) pos::rest) (tHt K Cs Y Q):=by
 subst hK;intro U s σ H D n cls dx T I hx hH h;have ok:=I.ok;have Ih:Inv (X.hand (.ref n)) _ σ _ s:=I.hand;obtain⟨oe,vs,he,hc,E⟩:=id hx;have hsz:Cs.length<=sizeLine:=by rw[sizeLine_eq];lia
 have i:=Heap.lt_size he;have nt:=Nat.ne_of_gt i;have Z:=I.hok.fresh (Nat.le_refl _);have G:=by rw[ah nt] at Z;exact Z
 refine wpAny_handleBy_cons (codeAny_handlers_test (wpAny_Tuple_spliced (hn.2 _ _ _ s σ _ _ _ Ih ⟨by simp_all,?_⟩))) (by intro q;cases q);have kp: ∀b u,s.heap.get? b=some u->(s.heap.push {cls:= .type "tuple",data:= .seq (Cs.map Value.ref).toArray}).get? b=some u:=fun b u e=>Heap.get?_push_of_some _ e;have B:Inv X _ σ (upd _ _ (.tup _)) {s with heap:=s.heap.push _,toks:=s.toks}:=
  I.laid kp (Nat.le_refl _) ⟨by simp_all,_,BN,⟨_,Heap.get?_push_size _ rfl,rfl,_,rfl⟩⟩
 rw[H_ (Ne.symm nt)] at B;have y:HV (s.heap.push {cls:= .type "tuple",data:= .seq (Cs.map Value.ref).toArray}) n cls dx (some T):=by
  obtain⟨J,F,O,hv,hT,oT,ts,h1,h2,h3⟩:=E;exact⟨oe,vs,kp _ _ he,hc,J,F,O,hv,hT,oT,ts,kp _ _ h1,h2,h3⟩
 have x:upd H s.heap.objs.size (.tup (Cs.map V.ref)) n=none:=by rw[ah (Ne.symm nt)];exact hH
 replace h:=h _ G;cases hb:anyS _ with
 |none=>rw[hb] at h;exact h.elim
 |some b=>
  rw[hb] at h;refine L_ B.l9 (kp _ _ he) (Heap.get?_push_size _ rfl) hn.1 (by rw[hc];exact hb) ?_;cases b with
  |false=>exact hr _ _ σ _ D n _ dx T B y x h
  |true=>
   have C:Inv (X.hand (.ref n)) _ σ _ _:=B.hand;refine codeAny_handlers_suite (z7 y ?_);refine wpAny_mono (hs _ _ _ _ _ _ C (h n x)) (fun f s2 q=>?_) fun _ _ z=>z.elim;cases f with
   |next=>obtain⟨a,H',m,q⟩:=q;exact⟨a,H',m.unhand ok,q⟩
   |brk=>obtain⟨a,H',m,q⟩:=q;exact⟨a,H',m.unhand ok,q⟩
   |cont=>obtain⟨a,H',m,q⟩:=q;exact⟨a,H',m.unhand ok,q⟩
   |ret u=>obtain⟨v,a,H',m,r,q⟩:=q;exact⟨v,a,H',m.unhand ok,r,q⟩
end
def IA (K:W.Frag):List V->Hp->VK->Prop:=fun xs H Q=>match xs with
 | [.ref p]=> ∃ns:List Int,n_ K H p (ns.map V.int)/\Q (.int ns.sum) H
 |_=>False
theorem GV {K:W.Frag}:IA K [.ref p] H Q=(∃ns:List Int,n_ K H p (ns.map V.int)/\Q (.int ns.sum) H):=rfl
theorem HL (K:W.Frag) (E:X.K=K) (hc:X.calm=true):bP X (.builtin "sum") (IA K):=by
 subst E;intro B s σ H xs us Q I rs q;unfold IA at q;split at q
 ·
  rename_i p;obtain⟨u,rfl,m⟩:=vals1 rs;cases m;obtain⟨ns,F,q⟩:=q;obtain⟨a,r,pl,G⟩:=I.tuple F;have d:p<s.heap.objs.size:=by obtain⟨o,e,_⟩:=pl;exact Heap.lt_size e
  have hlen:=r.length;rw[List.length_map] at hlen;refine call_sum_walkG (wpAny_pyIter_tuple pl ⟨s.heap.objs.size,_,_,_,_,_,fun i=>ns.getD i 0,rfl,Walks.tuple (A:=X.A.in1) (I.ok.hd hc) s.heap.objs.size p (Nat.ne_of_lt d) a.toArray,⟨⟨_,Heap.get?_push_size _ rfl,rfl,rfl⟩,pl.push _⟩,fun b hb=>?_,fun i v C=>?_,fun h' tk t' hk=>?_⟩)
  ·
   have:b=s.heap.objs.size\/b=p:=by simpa using hb
   show b<(s.heap.push _).objs.size;rw[Heap.size_push];rcases this with rfl|rfl
   ·exact Nat.lt_succ_self _
   ·exact Nat.lt_succ_of_lt d
  ·
   have j:a[i]?=some v:=by simpa using C
   have y:i<ns.length:=by
    have:=(List.getElem?_eq_some_iff.mp j).1;lia
   obtain⟨u,n,m⟩:=r.get (i:=i) (x:= .int ns[i]) (by rw[List.getElem?_map,List.getElem?_eq_getElem y];rfl);rw[j] at n;cases n;obtain⟨t,rfl⟩:=m;exact⟨t,by simp[List.getD,y]⟩
  ·
   refine⟨.int ns.sum,H,I.kept (h':=h') (t':=tk) fun b o e=>hk b o (fun z=>BW e (Nat.le_refl _) (List.mem_singleton.mp z)) (Heap.get?_push_of_some _ e),⟨t',?_⟩,q⟩;rw[List.size_toArray,<-hlen,preSum_eq ns ns.length (Nat.le_refl _),List.take_length]
 ·exact q.elim
theorem NO {K:W.Frag} (F:n_ K H a xs) (E:xs.length<=sizeLine) (Pv:Nat->List V->St->Hp->Prop) (h0:Pv 0 [] σ H) (z: ∀i d σ H,Pv i d σ H->d.length<=i) (hk: ∀i d σ H,Pv i d σ H->n_ K H a xs) (step: ∀(i:Nat) x d σ H,xs[i]?=some x->Pv i d σ H->g x σ H fun j s=>tt j s fun b v=>if b=true then te j v fun y B=>Pv (i+1) (d++ [y]) j B else Pv (i+1) d j v) (q: ∀d σ H,Pv xs.length d σ H->Q d H):uV K (.ref a) H fun J s=>oF J g tt te σ s Q:=by
 refine .inr ⟨xs,F,LP (n:=xs.length) Pv h0 E z (fun i d σ H u m=>⟨xs,xs[i],hk _ _ _ _ m,by simp[u]⟩) (fun d σ H m=>⟨xs,hk _ _ _ _ m,Nat.le_refl _⟩) (fun i d σ H x C u m y=>?_) q⟩;obtain⟨e,hx⟩:=y;subst e;exact step i x d σ _ (hx xs (hk _ _ _ _ m)) m
theorem Jg (c:cE X.K X.mg x C) (G:uM X.prog X.w X.K X.mg X.base (HY X.prog X.w) C "__init__" k ps sp) (hr:cG n X.A) (hk:k+1<=n) (hg:Gl X x) (d:Rz X E) (hex:X.ex= []) (ha:PA X (e::es) t) (a:(x == ("__debug__" : Str))=false:=by decide) (h:(e::es).any isStar=false:=by rfl):PE X (.Call (.Name x p) (e::es) [] pos) (BH C sp [] E t):=by
 obtain⟨f,i,F,hm,b⟩:=G;rw[List.any_cons,Bool.or_eq_false_iff] at h;exact FQ ⟨c.mks,hm.at_,hm.fn,c.kp⟩ F (hr.mono hk) hg c.Hs b .nil (d.passes hex) ha a (bL h.1) (kO h.2)
def MF (K:W.Frag):R2:=fun x y H Q=>match x,y with
 | .non,.ref p=> ∃(n:Nat) (as:List Addr) (a:List Dt),n<=60/\bO K H p (as.map V.ref)/\Paired (Dn K H n) (as.map V.ref) a/\Q (.bl false) H
 |_,_=>False
theorem zg: ∀{cs:List Addr} {d:List Value},Vals (cs.map V.ref) d->d=cs.map Value.ref
 | [],_,h=>by cases h;rfl
 |_::_,_,h=>by
  cases h with
  |cons a b=>cases a;rw[zg b];rfl
theorem ahj {K:W.Frag} (h:Dn K H n (.ref a) d):d≠ .non:=by
 rcases h.cases with h|⟨_,_,_,_,_,_,rfl,_⟩|⟨_,_,_,_,_,_,rfl,_⟩
 ·rcases h with⟨e,_⟩|⟨_,e,_⟩|⟨_,e,_⟩|⟨_,e,_⟩<;>cases e
 ·intro e;cases e
 ·intro e;cases e
section
open Classical in
theorem U5 (O:X.A.units+64<cLine):jS X (compareOp .In) (MF X.K):=by
 intro m s σ H x y v u Q I E C h;unfold MF at h;split at h;rotate_left
 ·exact h.elim
 rename_i p;obtain⟨n,as,W,hn,F,J,q⟩:=h;cases E;cases C;obtain⟨z,r,pl,P⟩:=I.list F;have G:=zg r;subst G;refine SeqAt.in_listAt (fun v=>false) pl.isList (fun w hw=>?_) ⟨.bl _,H,I,rfl,?_⟩
 ·
  have j:w∈as.map Value.ref:=by simpa using hw
  obtain⟨a,ha,rfl⟩:=List.mem_map.mp j;obtain⟨i,B⟩:=List.getElem?_of_mem ha;obtain⟨d',U,d⟩:=Paired.get J (show(as.map V.ref)[i]?=some (.ref a) by rw[List.getElem?_map,B];rfl);have eq:=(Gv n (A:=X.A.in1) I (by show X.A.units+1+n<cLine;lia) (show RelV (.ref a) (Value.ref a) from rfl) (show RelV .non Value.none from rfl) d (Dn.up (n:=0) (.inl ⟨rfl,rfl⟩) (Nat.zero_le n))).1;rw[decide_eq_false (ahj d)] at eq;exact eq
 ·
  have:((as.map Value.ref).toArray.any fun v=>false)=false:=by simp
  rw[this];exact q
theorem FW (K:W.Frag) (h:X.K=K) (a:X.A.units+64<cLine):jS X (compareOp .In) (MF K):=h▸U5 a
theorem IT {K:W.Frag}:MF K .non (.ref p) H Q= ∃(n:Nat) (as:List Addr) (a:List Dt),n<=60/\bO K H p (as.map V.ref)/\Paired (Dn K H n) (as.map V.ref) a/\Q (.bl false) H:=rfl
end
end L2
namespace L2
open PySem PySem.Spec PyProof.Rows
open Builtin Builtin.Str
noncomputable def wg (x y:Str) (k:Int):List Str:=partsBetween x (occurrences x y 0 x.length (limitOf x k)) y.length
def CG:V->List V->Hp->VK->Prop:=fun x vs H Q=>match x,vs with
 | .str z,[.str y]=>z.length<=100000/\(y.length == 0)=false/\∀l,H l=none->Q (.ref l) (upd H l (.lst ((Txt.split z y).map V.str)))
 | .str z,[.str y,.int k]=>z.length<=100000/\(y.length == 0)=false/\(0<=k/\k<=1000)/\(decide (z.length<y.length)||decide (strKind z<strKind y))=false/\(occurrences z y 0 z.length (limitOf z k)).isEmpty=false/\∀l,H l=none->Q (.ref l) (upd H l (.lst ((wg z y k).map V.str)))
 |_,_=>False
theorem IC:CG (.str z) [.str y] H Q=(z.length<=100000/\(y.length == 0)=false/\∀l,H l=none->Q (.ref l) (upd H l (.lst ((Txt.split z y).map V.str)))):=rfl
theorem IB:CG (.str z) [.str y,.int k] H Q=(z.length<=100000/\(y.length == 0)=false/\(0<=k/\k<=1000)/\(decide (z.length<y.length)||decide (strKind z<strKind y))=false/\(occurrences z y 0 z.length (limitOf z k)).isEmpty=false/\∀l,H l=none->Q (.ref l) (upd H l (.lst ((wg z y k).map V.str)))):=rfl
theorem DA: ∀(l:List (Str×Tok)),Vals ((l.map (·.1)).map V.str) (strValues l)
 | []=> .nil
 |_::r=> .cons ⟨_,rfl⟩ (DA r)
theorem zK (x y:Str) (n:Nat):(partsBetween x (occurrences x y 0 x.length n) y.length).length<=n+1:=by
 have a:=StrLaws.occ_length_le x y 0 x.length n;rw[length_partsBetween];lia
theorem split_le (x y:Str):(Txt.split x y).length<=x.length+2:=by
 unfold Txt.split;split
 ·simp
 ·
  split
  ·simp
  ·exact zK x y _
section
theorem vB (I:Inv X pins σ H s) (e:l.map (·.1)=ss) (hn:ss.length<=sizeLine) (h: ∀p,H p=none->Q (.ref p) (upd H p (.lst (ss.map V.str)))):
  EP X pins σ Q (.ref s.heap.objs.size) {s with toks:=k,heap:=s.heap.push {cls:= .type "list",data:= .seq (strValues l).toArray}}:=
 ⟨.ref s.heap.objs.size,_,I.laid (o:= .lst (ss.map V.str)) (fun b u e=>Heap.get?_push_of_some _ e) (Nat.le_refl _) (show jD X.prog X.w _ _ _ (.lst (ss.map V.str)) from⟨by simpa using hn,strValues l,_,e▸DA l,Heap.get?_push_size _ rfl⟩),rfl,h _ (I.hok.fresh (Nat.le_refl _))⟩
end
theorem mj:XN X "str.split" CG:=by
 intro a s σ H x vs v us Q I i j h;unfold CG at h;split at h
 ·
  rename_i z y;obtain⟨B,d,h⟩:=h;obtain⟨t,rfl⟩:=i;obtain⟨u,rfl,n⟩:=Vals.one j;obtain⟨u,rfl⟩:=n;have m:=sizeLine_eq;have E:=split_le z y;cases h1:(decide (z.length<y.length)||decide (strKind z<strKind y))
  ·
   cases hf:(occurrences z y 0 z.length (z.length+1)).isEmpty
   ·
    have C:=zK z y (z.length+1);refine call_meets F.slot_str_split (typeIs_str _ _ _) F.entry_str_split (F.args_str_split_2 _ _) (meets_str_split_sep z y t u h1 d hf (by lia) (by lia)) ?_;show EP X a σ Q _ {s with toks:=_,heap:=s.heap.push {cls:= .type "list",data:= .seq (strsFrom s.toks (partsBetween z (occurrences z y 0 z.length (z.length+1)) y.length)).toArray}};rw[strsFrom_eq];exact vB (ss:=Txt.split z y) I ((numbered_texts _ _).trans ((if_neg (ne_true_of_eq_false h1)).trans (if_neg (ne_true_of_eq_false hf))).symm) (by lia) h
   ·exact call_meets F.slot_str_split (typeIs_str _ _ _) F.entry_str_split (F.args_str_split_2 _ _) (meets_str_split_not_found z y t u h1 d hf)
     (vB (ss:=Txt.split z y) (l:=[(z,t)]) I ((if_neg (ne_true_of_eq_false h1)).trans (if_pos hf)).symm (by lia) h)
  ·exact call_meets F.slot_str_split (typeIs_str _ _ _) F.entry_str_split (F.args_str_split_2 _ _) (meets_str_split_cannot_occur z y t u h1)
    (vB (ss:=Txt.split z y) (l:=[(z,t)]) I (if_pos h1).symm (by lia) h)
 ·
  rename_i z y k;obtain⟨B,d,⟨k0,k1⟩,h1,hf,h⟩:=h;obtain⟨t,rfl⟩:=i;obtain⟨u,v,rfl,⟨u,rfl⟩,⟨v,rfl⟩⟩:=vals2 j;have m:=sizeLine_eq;have C:=zK z y (limitOf z k);have G:limitOf z k<=1000:=by unfold limitOf;split<;>lia
  refine call_meets F.slot_str_split (typeIs_str _ _ _) F.entry_str_split (F.args_str_split_3 _ _ _) (meets_str_split_sep_max z y k t u v (by simp;lia) h1 d hf (by lia) (by lia)) ?_;show EP X a σ Q _ {s with toks:=_,heap:=s.heap.push {cls:= .type "list",data:= .seq (strsFrom s.toks (partsBetween z (occurrences z y 0 z.length (limitOf z k)) y.length)).toArray}};rw[strsFrom_eq];exact vB (ss:=wg z y k) I (numbered_texts _ _) (by unfold wg;lia) h
 ·exact h.elim
def IS:List V->Hp->VK->Prop:=fun xs H Q=>match xs with
 | [.str z]=>z.length<=640/\∃n,intText? z=some n/\Q (.int n) H
 |_=>False
theorem G_:IS [.str z] H Q=(z.length<=640/\∃n,intText? z=some n/\Q (.int n) H):=rfl
theorem HU:bP X (.type "int") IS:=by
 intro a s σ H xs us Q I r h;unfold IS at h;split at h
 ·
  obtain⟨d,n,hn,h⟩:=h;obtain⟨u,rfl,t,rfl⟩:=vals1 r;exact W.KIN.call_text hn d ⟨.int n,H,I.tok _,⟨_,rfl⟩,h⟩
 ·exact h.elim
theorem ahq {K:W.Frag} (X:K.In h) (G:h.Ns mainGlobals mg) (a:W.nsIn K mainGlobals x=some (some v)) (b:W.nsIn K mainGlobals y=some (some v)):mg y=mg x:=
 (W.mg_of X G b).trans (W.mg_of X G a).symm
theorem FnAt.al {K:W.Frag} (G:FnAt P w K mg base CX x k ps sp) (e:mg y=mg x):FnAt P w K mg base CX y k ps sp:=by
 obtain⟨f,i,h1,d,a⟩:=G;exact⟨f,i,h1,e.trans d,a⟩
theorem JC {K:W.Frag}:W.kitAny K t [c,d,e,f]=Hw (W.kitOne K t c) (Hw (W.kitOne K t d) (Hw (W.kitOne K t e) (W.kitOne K t f))):=by
 have key: ∀{c:Value} {r:List Value},W.kitAny K t (c::r)=Hw (W.kitOne K t c) (W.kitAny K t r):=by
  intro c r;rw[W.kitAny];cases W.kitOne K t c with
  |none=>rfl
  |some b=>cases b<;>rfl
 rw[key,key,JD]
def Df (N:Addr->Addr->Addr->Addr->Prop):Option HO->Prop
 |some (.tup [.ref A,.ref B,.ref C,.ref D])=>N A B C D
 |_=>False
theorem KS:Df N (some (.tup [.ref A,.ref B,.ref C,.ref D]))=N A B C D:=rfl
def EF (K:W.Frag):List V->Hp->VK->Prop:=fun xs H Q=>match xs with
 | [.ref p,.ref t]=> ∃D dx,H p=some (.ext (oh p (.ref D) dx))/\m7 K D/\Dx H dx/\Df (fun d j i a=>E4 (W.kitAny K (.ref D) [.ref d,.ref j,.ref i,.ref a]) fun b=>Q (.bl b) H) (H t)
 |_=>False
theorem EE {K:W.Frag}:EF K [.ref p,.ref t] H Q= ∃D dx,H p=some (.ext (oh p (.ref D) dx))/\m7 K D/\Dx H dx/\Df (fun d j i a=>E4 (W.kitAny K (.ref D) [.ref d,.ref j,.ref i,.ref a]) fun b=>Q (.bl b) H) (H t):=rfl
theorem vals4 (r:Vals [a,b,c,d] us): ∃u v x y,us= [u,v,x,y]/\RelV a u/\RelV b v/\RelV c x/\RelV d y:=by
 cases r with
 |cons n r=>cases r with
  |cons m r=>cases r with
   |cons i r=>cases r with
    |cons j r=>cases r with
     |nil=>exact⟨_,_,_,_,rfl,n,m,i,j⟩
theorem Fm (K:W.Frag) (F:X.K=K):bP X (.builtin "isinstance") (EF K):=by
 subst F;intro j s σ H xs us Q I rs q;unfold EF at q;split at q
 ·
  rename_i p t;obtain⟨u,c,rfl,B,rc⟩:=vals2 rs;obtain rfl:u=Value.ref p:=B;obtain rfl:c=Value.ref t:=rc;obtain⟨D,dx,U,g,ok,q⟩:=q;unfold Df at q;split at q
  ·
   rename_i x m i v ht;obtain⟨O,G,J,_⟩:=I.inst U (fun d z=>by
    subst z;obtain⟨fs,P⟩:=ok;exact(I.hok d _ P).there)
   obtain⟨E,r,⟨o,ho,hc,n,hd⟩,hz⟩:=I.tuple (n_.of ht);obtain⟨a,b,c,d,rfl,ra,rb,rc,Z⟩:=vals4 r;obtain rfl:a=Value.ref x:=ra;obtain rfl:b=Value.ref m:=rb;obtain rfl:c=Value.ref i:=rc;obtain rfl:d=Value.ref v:=Z;obtain⟨oc,C,y,Y⟩:=o;simp only at hc hd;subst hc hd;cases e:W.kitAny X.K (.ref D) [.ref x,.ref m,.ref i,.ref v] with
   |none=>rw[e] at q;exact q.elim
   |some b=>
    rw[e] at q;exact W.kia_tup (JB g) I.l9 ⟨O,G,J⟩ ho e (fun z=>nomatch z) fun tk=>⟨.bl b,H,I.tok tk,rfl,q⟩
  ·exact q.elim
 ·exact q.elim
end L2
namespace WaysM
structure St (n:Nat) (P S D a A b B:Int):Prop where
 p:P=4 ^ n
 s0:0<=S
 s1:S<=1000000*P
 d0:0<=D
 d1:D<=2000000*P
 sa:a*P=S*A
 db:b*(2*P)=D*B
 a0:0<=a
 b0:0<=b
 pa: ∃i,A=2 ^ i
 pb: ∃j,B=2 ^ j
 oa: ¬(a % 2=0/\A % 2=0)
 ob: ¬(b % 2=0/\B % 2=0)
end WaysM
namespace FrameM
open PySem L2 Com
noncomputable def Ir:Str:=" !\"#$&'()*+,-./0123456789:;<=>?@ABCDEFGHIJKLMNOPQRSTUVWXYZ[\\]^_`abcdefghijklmnopqrstuvwxyz{|}~"
noncomputable def XH (x:V):Bool:=match x with
 | .str i=>!(Builtin.Str.occurrences Ir i 0 Ir.length 1).isEmpty
 |_=>false
noncomputable def b7 (v l h:Int):Bool:=decide (l<=v)&&decide (v<=h)
theorem dropx (S:a7 H H1) (he:H1 e=none) (hd:upd H1 e o d=none):a7 H (lg (upd (upd (upd H1 e o) d (.xd [(f,v)])) e (.ext (xX e C (some d)))) e)/\lg (upd (upd (upd H1 e o) d (.xd [(f,v)])) e (.ext (xX e C (some d)))) e d=some (.xd [(f,v)]):=by
 have nd:d≠e:=fun z=>by rw[z,aa] at hd;cases hd
 refine⟨fun b u hb=>?_,?_⟩
 ·
  have h1:=S b u hb;have nb:=ax h1 he;rw[jR nb,ah nb,ah (fun z=>?_),ah nb];exact h1;rw[z] at h1;rw[ah nd] at hd;rw[h1] at hd;cases hd
 ·rw[jR nd,ah nd,aa]
end FrameM
namespace StM
end StM
namespace L2
open PySem PySem.Spec PyProof.Rows
section
variable {X:Cx} {CX:Em} {k n:Nat} {ps:List Str} {sp:Sp} {x:Str} {p pos pos' apos:Pos} {e a b o:Expr} {es:List Expr} {t:TA} {te ta tb:TE} {C:Addr} {f m:Str} {K:W.Frag}
theorem aW [Quiet CX] (G:FnAt X.prog X.w X.K X.mg X.base CX x k ps sp) (hr:cG n X.A) (ha:PA X (e::es) t) (hk:k<=n:=by decide) (hg:Gl X x:=by exact rfl)
    (d:(x == ("__debug__" : Str))=false:=by decide) (h:(e::es).any isStar=false:=by rfl):PE X (.Call (.Name x p) (e::es) [] pos) (BI sp [] E0 t):=U2 G hr hk hg ha d h
theorem jg [Quiet CX] {pl:Sem Bool} (he:PE X o ta) (c:cE X.K X.mg x C) (G:uM X.prog X.w X.K X.mg X.base CX C m k ps sp) (hr:cG n X.A) (ha:PA X (e::es) t) (hk:k<=n:=by decide) (d:(e::es).any isStar=false:=by rfl)
    (ht:eval (.Call (.Attribute o m apos) (e::es) [] pos) X.env=(do
      let ov<-eval o X.env
      standAt apos.atName
      let (f,first)<-holding [ov] (getMethod ov m pl)
      callWith pos f first (backTo pos (starEach (e::es) X.env)) (backToKw pos (keywordEach [] X.env))):=by rfl):PE X (.Call (.Attribute o m apos) (e::es) [] pos) (Ic C m sp ta t):=UY he c G hr hk ha d ht
theorem jT [Quiet CX] {pl:Sem Bool} (he:PE X o ta) (c:cE X.K X.mg x C) (G:uM X.prog X.w X.K X.mg X.base CX C m k ps sp) (hr:cG n X.A) (hk:k<=n:=by decide)
    (ht:eval (.Call (.Attribute o m apos) [] [] pos) X.env=(do
      let ov<-eval o X.env
      standAt apos.atName
      let (f,first)<-holding [ov] (getMethod ov m pl)
      callWith pos f first (backTo pos (starEach [] X.env)) (backToKw pos (keywordEach [] X.env))):=by rfl):PE X (.Call (.Attribute o m apos) [] [] pos) (Ic C m sp ta we):=M4 he c G hr hk ht
theorem aN (he:PE X e ta) (c:cE X.K X.mg x C) (nn:a_ X.K C f) (hb:attributeBase e f X.env (eval e X.env)=eval e X.env:=by exact rfl):PE X (.Attribute e f pos) (Ij C f ta):=M7 he c nn hb
theorem a8 (i:Nat) (d:X.N.Nodup) (he:PE X e te) (j:X.N[i]?=some x:=by exact rfl) (hx:Loc X.env.scope x:=by first|exact Or.inl rfl|exact Or.inr rfl) (h:o3 e=false:=by rfl) (hf:X.fn x=true\/X.env.scope.names.lookup x=some .local:=by first|exact .inl rfl|exact .inr rfl|assumption):
    PS X (.Assign [.Name x pos'] e pos) (DF te (pP i)):=FN d j hx he h hf
theorem aZ (K:W.Frag) (ha:PE X a ta) (hb:PE X b tb) (d:X.K=K:=by exact rfl) (i:Dw b:=by exact fun _ _=>rfl):PE X (.Subscript a b pos) (GJ (IP K) ta tb):=N5 (alJ K d) ha hb i
theorem vg (K:W.Frag) (ha:PE X a ta) (hb:PE X b tb) (d:X.K=K:=by exact rfl) (i:Dw b:=by exact fun _ _=>rfl):PE X (.Subscript a b pos) (GJ (zE K) ta tb):=N5 (agg K d) ha hb i
theorem cZ (K:W.Frag) (hr:cG n X.A) (ha:PE X a ta) (hb:PE X b tb) (d:X.K=K:=by exact rfl):PT X (.Compare a [.Eq] [b] pos) (BG (GJ (wD K false) ta tb)):=kL (l5 K d hr.units) ha hb (nomark _)
theorem qc (K:W.Frag) (hr:cG n X.A) (ha:PE X a ta) (hb:PE X b tb) (d:X.K=K:=by exact rfl):PT X (.Compare a [.NotEq] [b] pos) (BG (GJ (wD K true) ta tb)):=kL (Na K d hr.units) ha hb (nomark _)
theorem bN {op:CmpOp} {r:R2} (ho:jS X (compareOp op) r) (ha:PE X a ta) (hb:PE X b tb) (hm:behindInMarks op b=false:=by exact nomark _):PT X (.Compare a [op] [b] pos) (BG (GJ r ta tb)):=kL ho ha hb hm
theorem l0 {op:CmpOp} {r:R2} (ho:jS X (compareOp op) r) (ha:PE X a ta) (hb:PE X b tb) (hm:behindInMarks op b=false:=by exact nomark _):PE X (.Compare a [op] [b] pos) (GJ r ta tb):=sW ho ha hb hm
theorem a9 (K:W.Frag) (ha:PE X a ta) (hb:PE X b tb) (d:X.K=K:=by exact rfl):PE X (.BinOp a .Add b pos) (GJ (tL K) ta tb):=bz (FY K d) ha hb
theorem a6 (i:Nat) (d:X.N.Nodup) (j:X.N[i]?=some x:=by exact rfl) (hx:Loc X.env.scope x:=by first|exact Or.inl rfl|exact Or.inr rfl) (hf:X.fn x=true\/X.env.scope.names.lookup x=some .local:=by first|exact .inl rfl|exact .inr rfl|assumption):PG X (.Name x pos) (pP i):=M0 d j hx hf
theorem bI (ha:PE X e te) (h:isStar e=false:=by rfl):PA X [e] (qY te we):=eQ ha jJ h
theorem cK (ha:PE X a ta) (hb:PE X b tb) (h:isStar a=false:=by rfl) (h':isStar b=false:=by rfl):PA X [a,b] (qY ta (qY tb we)):=eQ ha (eQ hb jJ h') h
end
end L2
set_option backward.eqns.nonrecursive false
namespace K84
open PySem L2 Com FrameM
def aP (u:TS):TS:=u
theorem bb (h:ya X l u):ya X l (aP u):=h
theorem fY (h:XM X l u):XM X l (aP u):=⟨h.h⟩
theorem Lu {u:TS} (h: ∀a,a=D->u a σ H):u D σ H:=h D rfl
noncomputable def top (i:Nat):Stmt:=Challenge.pw_slowroad_k84_desk_newly_told.main.body.getD i (.Pass ⟨0,0,0,0⟩)
abbrev BdT (d:List Str) (x y:Str) (s:Stmt):Prop:= ∀(kV doc pm:Value) (an:Option Addr) (a ct:Value) (us:List Value),us.length=d.length->bindArgs (W.fnOf x y (jA s) (fT s) (bp s) .none kV doc pm an a ct) ⟨us,[]⟩=pure (d.zip us)
theorem Tw {α:Type} {us:List α} (h:us.length=1): ∃a0,us= [a0]:=List.length_eq_one_iff.mp h
theorem Tv {α:Type} {us:List α} (h:us.length=2): ∃a0 d,us= [a0,d]:=by
 obtain⟨a,t,rfl⟩:=List.exists_cons_of_length_eq_add_one h;obtain⟨b0,rfl⟩:=Tw (Nat.succ.inj h);exact⟨a,b0,rfl⟩
theorem Tu {α:Type} {us:List α} (h:us.length=3): ∃a0 d j,us= [a0,d,j]:=by
 obtain⟨a,t,rfl⟩:=List.exists_cons_of_length_eq_add_one h;obtain⟨b0,i,rfl⟩:=Tv (Nat.succ.inj h);exact⟨a,b0,i,rfl⟩
theorem Tt {α:Type} {us:List α} (h:us.length=4): ∃a0 i m d,us= [a0,i,m,d]:=by
 obtain⟨a,t,rfl⟩:=List.exists_cons_of_length_eq_add_one h;obtain⟨b0,j,n,rfl⟩:=Tu (Nat.succ.inj h);exact⟨a,b0,j,n,rfl⟩
theorem Ts {α:Type} {us:List α} (h:us.length=5): ∃a0 i s d n,us= [a0,i,s,d,n]:=by
 obtain⟨a,t,rfl⟩:=List.exists_cons_of_length_eq_add_one h;obtain⟨b0,j,u,m,rfl⟩:=Tt (Nat.succ.inj h);exact⟨a,b0,j,u,m,rfl⟩
theorem af1 {α:Type} {us:List α} (h:us.length=6): ∃a0 j v d u i,us= [a0,j,v,d,u,i]:=by
 obtain⟨a,t,rfl⟩:=List.exists_cons_of_length_eq_add_one h;obtain⟨b0,n,x,s,m,rfl⟩:=Ts (Nat.succ.inj h);exact⟨a,b0,n,x,s,m,rfl⟩
abbrev FA (P:Program) (w:World) (K:W.Frag) (mg:Str->Option Value) (base:Heap) (x:Str) (k:Nat) (a:List Str) (sp:Sp):Prop:=FnAt P w K mg base (HY P w) x k a sp
abbrev MA (P:Program) (w:World) (K:W.Frag) (mg:Str->Option Value) (base:Heap) (C:Addr) (x:Str) (k:Nat) (a:List Str) (sp:Sp):Prop:=uM P w K mg base (HY P w) C x k a sp
noncomputable abbrev ic (i j:Nat):Stmt:=inClass (top i) j
abbrev SB (N a:List Str) (x y:Str) (s:Stmt):Prop:=ma N a (bp s)/\BdT a x y s
abbrev SC (a:List Str) (x y:Str) (s:Stmt):Prop:=ma a a (bp s)/\BdT a x y s
abbrev SY (a:List Str) (x:Str) (s:Stmt):Prop:=ma a a (bp s)/\BdT a x x s
abbrev SZ (N a:List Str) (x:Str) (s:Stmt):Prop:=ma N a (bp s)/\BdT a x x s
set_option hygiene false in
local macro_rules | `(tactic| exists 2) => `(tactic| (refine⟨⟨rfl,rfl,rfl,by decide +kernel,rfl,by decide +kernel,by decide +kernel⟩, ?_⟩; intro _ _ _ _ _ _ us hl; first | (obtain⟨_,rfl⟩ := Tw hl; rfl) | (obtain⟨_,_,rfl⟩ := Tv hl; rfl) | (obtain⟨_,_,_,rfl⟩ := Tu hl; rfl) | (obtain⟨_,_,_,_,rfl⟩ := Tt hl; rfl) | (obtain⟨_,_,_,_,_,rfl⟩ := Ts hl; rfl) | (obtain⟨_,_,_,_,_,_,rfl⟩ := af1 hl; rfl)))
theorem tu:SC ["self","at"] "__init__" "BadRoad.__init__" (ic 5 0):=by exists 2
theorem tf:SC ["self","least"] "__init__" "NotWide.__init__" (ic 7 0):=by exists 2
theorem tj:SC ["self","at"] "__init__" "BadWish.__init__" (ic 10 0):=by exists 2
theorem vb:SC ["self","at"] "__init__" "NoRow.__init__" (ic 11 0):=by exists 2
theorem zA:SY ["value","low","high"] "is_from" (top 13):=by exists 2
theorem GR:SY ["deeds"] "copied" (top 20):=by exists 2
theorem uY:SY ["deed"] "has_whole_copy" (top 22):=by exists 2
theorem rE:SZ ["deeds","whole","later"] ["deeds"] "fairness" (top 23):=by exists 2
theorem EA:SY ["copy","lag"] "is_copy" (top 24):=by exists 2
theorem Ez:SY ["deed","lag"] "is_deed" (top 25):=by exists 2
theorem oR:SZ ["deeds","lag","at","deed"] ["deeds","lag"] "check_road" (top 26):=by exists 2
theorem wz:SC ["self","deeds","lag"] "__init__" "Road.__init__" (ic 27 0):=by exists 2
theorem va:SC ["self"] "under_way" "Road.under_way" (ic 27 3):=by exists 2
theorem Mn:SY ["room","lag"] "need" (top 31):=by exists 2
theorem Cy:SY ["rooms"] "are_rooms" (top 38):=by exists 2
theorem Cw:SY ["first","longest"] "are_waits" (top 39):=by exists 2
theorem oq:SB ["self","ring","rooms","lag","first","longest","least"] ["self","ring","rooms","lag","first","longest"] "__init__" "Terms.__init__" (ic 40 0):=by exists 2
theorem DI:SY ["things"] "signs_of" (top 142):=by exists 2
theorem vc:SC ["self","most"] "__init__" "Meter.__init__" (ic 73 0):=by exists 2
theorem wt:SC ["self","first","longest"] "__init__" "Ways.__init__" (ic 77 0):=by exists 2
theorem tX:SC ["self","ring","first","longest","most"] "__init__" "Sender.__init__" (ic 80 0):=by exists 2
theorem zD:SC ["self"] "many" "Sender.many" (ic 80 2):=by exists 2
theorem yg:SC ["self","place"] "thing" "Sender.thing" (ic 80 3):=by exists 2
theorem CA:SC ["self"] "name" "Shut.name" (ic 83 0):=by exists 2
theorem yj:SC ["self"] "name" "Calling.name" (ic 84 0):=by exists 2
theorem CB:SC ["self"] "name" "Open.name" (ic 85 0):=by exists 2
theorem CC:SC ["self"] "name" "Left.name" (ic 86 0):=by exists 2
theorem yh:SC ["self"] "name" "Leaving.name" (ic 87 0):=by exists 2
theorem yf:SC ["self"] "name" "Waiting.name" (ic 88 0):=by exists 2
theorem yi:SC ["self"] "name" "Closing.name" (ic 89 0):=by exists 2
theorem u_:SC ["self","ring","room"] "__init__" "Taker.__init__" (ic 91 0):=by exists 2
theorem zz:SY ["text"] "is_text" (top 96):=by exists 2
theorem wA:SC ["self","side","terms"] "__init__" "Hand.__init__" (ic 98 0):=by exists 2
theorem CD:SC ["self"] "name" "Hand.name" (ic 98 1):=by exists 2
theorem AO:SC ["self"] "quiet" "Hand.quiet" (ic 98 12):=by exists 2
theorem Ey:SY ["wish"] "is_wish" (top 104):=by exists 2
theorem DJ:SY ["word","value"] "is_value" (top 105):=by exists 2
theorem mE:SZ ["wishes","at","wish"] ["wishes"] "check_wishes" (top 106):=by exists 2
theorem yd:SY ["wishes"] "last_turn_of" (top 107):=by exists 2
theorem wu:SC ["self","terms","roads","wishes"] "__init__" "Walk.__init__" (ic 109 0):=by exists 2
theorem Cz:SB ["self","side","wish"] ["self"] "step" "Walk.step" (ic 109 1):=by exists 2
theorem rF:SB ["self","side","taker"] ["self","side"] "unread" "Walk.unread" (ic 109 7):=by exists 2
theorem AM:SC ["self"] "quiet" "Walk.quiet" (ic 109 10):=by exists 2
theorem k_:SB ["self","side","hand"] ["self","side"] "side_is_quiet" "Walk.side_is_quiet" (ic 109 11):=by exists 2
theorem DK:SC ["self","most"] "run" "Walk.run" (ic 109 12):=by exists 2
theorem pB:SB ["self","side","sender"] ["self","side"] "given_in" "Walk.given_in" (ic 109 14):=by exists 2
theorem u0:SC ["self","side"] "given_out" "Walk.given_out" (ic 109 15):=by exists 2
theorem Cv:SY ["word"] "number_of" (top 116):=by exists 2
theorem tK:SZ ["words","numbers"] ["words"] "numbers_of" (top 117):=by exists 2
theorem uX:SY ["word","numbers"] "row_of_numbers" (top 118):=by exists 2
theorem yc:SY ["terms"] "row_of_terms" (top 119):=by exists 2
theorem rD:SZ ["row","words","numbers"] ["row"] "terms_of" (top 120):=by exists 2
theorem yb:SY ["deed"] "word_of_deed" (top 122):=by exists 2
theorem zy:SY ["side","deeds"] "row_of_road" (top 123):=by exists 2
theorem EB:SZ ["word","numbers"] ["word"] "copy_of" (top 124):=by exists 2
theorem zB:SZ ["word","copies"] ["word"] "deed_of" (top 125):=by exists 2
theorem qP:SZ ["row","words"] ["row"] "side_of_road" (top 126):=by exists 2
theorem xO:SZ ["row","lag","deeds"] ["row","lag"] "deeds_of" (top 127):=by exists 2
theorem zw:SZ ["wish","words"] ["wish"] "row_of_wish" (top 128):=by exists 2
theorem tW:SZ ["row","words","wish"] ["row"] "wish_of" (top 129):=by exists 2
theorem DH:SY ["word","behind"] "value_of" (top 130):=by exists 2
theorem rC:SZ ["row","word","words","turns"] ["row","word"] "turns_of" (top 131):=by exists 2
theorem Cu:SY ["wish"] "things_of" (top 134):=by exists 2
theorem uW:SY ["wishes"] "things_at_most" (top 135):=by exists 2
theorem j9:SZ ["terms","roads","wishes","fair","greater","lag","rounds","turns"] ["terms","roads","wishes"] "reckoned" (top 136):=by exists 2
theorem FD:SZ ["walk","rows"] ["walk"] "kept" (top 138):=by exists 2
theorem wy:SC ["self","terms"] "__init__" "Talk.__init__" (ic 144 0):=by exists 2
theorem pC:SB ["self","row","words"] ["self","row"] "hear_row" "Talk.hear_row" (ic 144 1):=by exists 2
theorem kK:SB ["self","row","side","deeds"] ["self","row"] "hear_road" "Talk.hear_road" (ic 144 2):=by exists 2
theorem ot:SB ["self","row","wish"] ["self","row"] "hear_wish" "Talk.hear_wish" (ic 144 3):=by exists 2
theorem u9:SC ["self"] "made_walk" "Talk.made_walk" (ic 144 4):=by exists 2
theorem AN:SB ["self","turns","walk"] ["self","turns"] "go_to" "Talk.go_to" (ic 144 5):=by exists 2
theorem zC:SC ["self","turns"] "run_to" "Talk.run_to" (ic 144 6):=by exists 2
theorem jZ:SB ["self","word","walk","turns"] ["self","word"] "tell_whole" "Talk.tell_whole" (ic 144 7):=by exists 2
theorem i9:SB ["self","word","side","walk","hand","stand"] ["self","word","side"] "tell_side" "Talk.tell_side" (ic 144 8):=by exists 2
theorem wB:SC ["self"] "__init__" "Desk.__init__" (ic 145 0):=by exists 2
theorem xP:SB ["self","row","told"] ["self","row"] "say" "Desk.say" (ic 145 1):=by exists 2
theorem vd:SC ["self","row"] "answer_to" "Desk.answer_to" (ic 145 2):=by exists 2
theorem nq:SB ["self","row","terms"] ["self","row"] "hear_terms" "Desk.hear_terms" (ic 145 3):=by exists 2
theorem ye:SY ["_law_script","_law_k"] "_law_cell_at" (top 147):=by exists 2
theorem lZ:SZ ["_law_cell","_law_k","_law_number","_law_step"] ["_law_cell","_law_k"] "_law_mixed" (top 148):=by exists 2
theorem bM:SZ ["_law_cell","_law_rooms","_law_lag","_law_least","_law_room","_law_first","_law_longest"] ["_law_cell"] "_law_numbers" (top 149):=by exists 2
theorem oS:SZ ["_law_cell","_law_some"] ["_law_cell"] "_law_early" (top 150):=by exists 2
theorem ij:SZ ["_law_desk","_law_row","_law_at","_law_error","e","_law_told"] ["_law_desk","_law_row","_law_at"] "_law_refused" (top 151):=by exists 2
theorem uZ:SY ["_law_numbers_here"] "_law_terms_row" (top 152):=by exists 2
theorem fV:SZ ["_law_numbers_here","_law_ring","_law_one","_law_other","_law_lag","_law_first","_law_longest"] ["_law_numbers_here"] "_law_bound" (top 153):=by exists 2
theorem bV:SZ ["_law_desk","_law_numbers_here","_law_cell","_law_due","_law_side","_law_at","_law_row","_law_text","_law_found"] ["_law_desk","_law_numbers_here","_law_cell"] "_law_asked" (top 154):=by exists 2
theorem nk:SZ ["_law_script","_law_desk","_law_cell","_law_taken","_law_numbers_here","_law_many","_law_row"] ["_law_script"] "law" (top 155):=by exists 2
section
noncomputable def xn (a:V):List (Str×V):=[("deeds",a)]
theorem Be:(xn v0).length<1000:=by show 1<1000;decide
theorem o5:bu "deeds" v0 []=xn v0:=by kernel_rfl
noncomputable def lD (a d:V):List (Str×V):=[("deeds",a),("sendings",d)]
theorem Bd:(lD v0 v1).length<1000:=by show 2<1000;decide
theorem tO:bu "sendings" v1 (xn v0)=lD v0 v1:=by kernel_rfl
noncomputable def oC (a i d:V):List (Str×V):=[("deeds",a),("sendings",i),("coming",d)]
theorem Eb:bu "coming" v2 (lD v0 v1)=oC v0 v1 v2:=by kernel_rfl
theorem ur:(oC v0 v1 v2).lookup ("coming" : Str)=some v2:=by kernel_rfl
theorem sr:(oC v0 v1 v2).lookup ("under_way" : Str)=none:=by kernel_rfl
noncomputable def lB (a:V):List (Str×V):=[("ring",a)]
theorem Ah:(lB v0).length<1000:=by show 1<1000;decide
theorem Af:bu "ring" v0 []=lB v0:=by kernel_rfl
noncomputable def uh (a d:V):List (Str×V):=[("ring",a),("rooms",d)]
theorem Ae:(uh v0 v1).length<1000:=by show 2<1000;decide
theorem Ac:bu "rooms" v1 (lB v0)=uh v0 v1:=by kernel_rfl
noncomputable def ug (a i d:V):List (Str×V):=[("ring",a),("rooms",i),("lag",d)]
theorem Ab:(ug v0 v1 v2).length<1000:=by show 3<1000;decide
theorem Aa:bu "lag" v2 (uh v0 v1)=ug v0 v1 v2:=by kernel_rfl
noncomputable def uf (a j d i:V):List (Str×V):=[("ring",a),("rooms",j),("lag",d),("first",i)]
theorem z_:(uf v0 v1 v2 v3).length<1000:=by show 4<1000;decide
theorem z9:bu "first" v3 (ug v0 v1 v2)=uf v0 v1 v2 v3:=by kernel_rfl
noncomputable def js (a j d i m:V):List (Str×V):=[("ring",a),("rooms",j),("lag",d),("first",i),("longest",m)]
theorem Di:bu "longest" v4 (uf v0 v1 v2 v3)=js v0 v1 v2 v3 v4:=by kernel_rfl
theorem vK:(js v0 v1 v2 v3 v4).lookup ("ring" : Str)=some v0:=by kernel_rfl
theorem ud:(js v0 v1 v2 v3 v4).lookup ("rooms" : Str)=some v1:=by kernel_rfl
theorem xa:(js v0 v1 v2 v3 v4).lookup ("lag" : Str)=some v2:=by kernel_rfl
theorem ue:(js v0 v1 v2 v3 v4).lookup ("first" : Str)=some v3:=by kernel_rfl
theorem r6:(js v0 v1 v2 v3 v4).lookup ("longest" : Str)=some v4:=by kernel_rfl
noncomputable def uw (a:V):List (Str×V):=[("most",a)]
theorem Au:(uw v0).length<1000:=by show 1<1000;decide
theorem As:bu "most" v0 []=uw v0:=by kernel_rfl
noncomputable def uv (a d:V):List (Str×V):=[("most",a),("window",d)]
theorem Ar:(uv v0 v1).length<1000:=by show 2<1000;decide
theorem Aq:bu "window" v1 (uw v0)=uv v0 v1:=by kernel_rfl
noncomputable def uu (a i d:V):List (Str×V):=[("most",a),("window",i),("knee",d)]
theorem Ap:(uu v0 v1 v2).length<1000:=by show 3<1000;decide
theorem Ao:bu "knee" v2 (uv v0 v1)=uu v0 v1 v2:=by kernel_rfl
noncomputable def su (a j d i:V):List (Str×V):=[("most",a),("window",j),("knee",d),("counted",i)]
theorem Dk:bu "counted" v3 (uu v0 v1 v2)=su v0 v1 v2 v3:=by kernel_rfl
noncomputable def wY (a:V):List (Str×V):=[("longest",a)]
theorem A6:(wY v0).length<1000:=by show 1<1000;decide
theorem A5:bu "longest" v0 []=wY v0:=by kernel_rfl
noncomputable def wX (a d:V):List (Str×V):=[("longest",a),("smooth",d)]
theorem A4:(wX v0 v1).length<1000:=by show 2<1000;decide
theorem AZ:bu "smooth" v1 (wY v0)=wX v0 v1:=by kernel_rfl
noncomputable def wW (a i d:V):List (Str×V):=[("longest",a),("smooth",i),("spread",d)]
theorem AY:(wW v0 v1 v2).length<1000:=by show 3<1000;decide
theorem AX:bu "spread" v2 (wX v0 v1)=wW v0 v1 v2:=by kernel_rfl
noncomputable def qt (a j d i:V):List (Str×V):=[("longest",a),("smooth",j),("spread",d),("wait",i)]
theorem Ea:bu "wait" v3 (wW v0 v1 v2)=qt v0 v1 v2 v3:=by kernel_rfl
noncomputable def mq (a d:V):List (Str×V):=[("ring",a),("ways",d)]
theorem yN:(mq v0 v1).length<1000:=by show 2<1000;decide
theorem yM:bu "ways" v1 (lB v0)=mq v0 v1:=by kernel_rfl
noncomputable def mm (a i d:V):List (Str×V):=[("ring",a),("ways",i),("meter",d)]
theorem yL:(mm v0 v1 v2).length<1000:=by show 3<1000;decide
theorem yK:bu "meter" v2 (mq v0 v1)=mm v0 v1 v2:=by kernel_rfl
noncomputable def sq (a j d i:V):List (Str×V):=[("ring",a),("ways",j),("meter",d),("things",i)]
theorem yJ:(sq v0 v1 v2 v3).length<1000:=by show 4<1000;decide
theorem yI:bu "things" v3 (mm v0 v1 v2)=sq v0 v1 v2 v3:=by kernel_rfl
noncomputable def so (a j d i m:V):List (Str×V):=[("ring",a),("ways",j),("meter",d),("things",i),("base",m)]
theorem yH:(so v0 v1 v2 v3 v4).length<1000:=by show 5<1000;decide
theorem yG:bu "base" v4 (sq v0 v1 v2 v3)=so v0 v1 v2 v3 v4:=by kernel_rfl
noncomputable def sk (a m i j n d:V):List (Str×V):=[("ring",a),("ways",m),("meter",i),("things",j),("base",n),("top",d)]
theorem yF:(sk v0 v1 v2 v3 v4 v5).length<1000:=by show 6<1000;decide
theorem yE:bu "top" v5 (so v0 v1 v2 v3 v4)=sk v0 v1 v2 v3 v4 v5:=by kernel_rfl
noncomputable def sj (a m i j n d s:V):List (Str×V):=[("ring",a),("ways",m),("meter",i),("things",j),("base",n),("top",d),("edge",s)]
theorem yD:(sj v0 v1 v2 v3 v4 v5 v6).length<1000:=by show 7<1000;decide
theorem yC:bu "edge" v6 (sk v0 v1 v2 v3 v4 v5)=sj v0 v1 v2 v3 v4 v5 v6:=by kernel_rfl
noncomputable def si (a m i j s d u n:V):List (Str×V):=[("ring",a),("ways",m),("meter",i),("things",j),("base",s),("top",d),("edge",u),("clock",n)]
theorem yB:(si v0 v1 v2 v3 v4 v5 v6 v7).length<1000:=by show 8<1000;decide
theorem yA:bu "clock" v7 (sj v0 v1 v2 v3 v4 v5 v6)=si v0 v1 v2 v3 v4 v5 v6 v7:=by kernel_rfl
noncomputable def ml (a m i j u d v n s:V):List (Str×V):=[("ring",a),("ways",m),("meter",i),("things",j),("base",u),("top",d),("edge",v),("clock",n),("base_hurried",s)]
theorem yz:(ml v0 v1 v2 v3 v4 v5 v6 v7 v8).length<1000:=by show 9<1000;decide
theorem yy:bu "base_hurried" v8 (si v0 v1 v2 v3 v4 v5 v6 v7)=ml v0 v1 v2 v3 v4 v5 v6 v7 v8:=by kernel_rfl
noncomputable def kT (a m i j v d x n u s:V):List (Str×V):=[("ring",a),("ways",m),("meter",i),("things",j),("base",v),("top",d),("edge",x),("clock",n),("base_hurried",u),("known_places",s)]
theorem xk:(kT v0 v1 v2 v3 v4 v5 v6 v7 v8 v9).length<1000:=by show 10<1000;decide
theorem xj:bu "known_places" v9 (ml v0 v1 v2 v3 v4 v5 v6 v7 v8)=kT v0 v1 v2 v3 v4 v5 v6 v7 v8 v9:=by kernel_rfl
noncomputable def kS (a m i j v d x n u s v10:V):List (Str×V):=[("ring",a),("ways",m),("meter",i),("things",j),("base",v),("top",d),("edge",x),("clock",n),("base_hurried",u),("known_places",s),("first_turns",v10)]
theorem xi:(kS v0 v1 v2 v3 v4 v5 v6 v7 v8 v9 v10).length<1000:=by show 11<1000;decide
theorem xh:bu "first_turns" v10 (kT v0 v1 v2 v3 v4 v5 v6 v7 v8 v9)=kS v0 v1 v2 v3 v4 v5 v6 v7 v8 v9 v10:=by kernel_rfl
noncomputable def ki (a m i j v d x n u s v10 v11:V):List (Str×V):=[("ring",a),("ways",m),("meter",i),("things",j),("base",v),("top",d),("edge",x),("clock",n),("base_hurried",u),("known_places",s),("first_turns",v10),("gone_again",v11)]
theorem Bc:bu "gone_again" v11 (kS v0 v1 v2 v3 v4 v5 v6 v7 v8 v9 v10)=ki v0 v1 v2 v3 v4 v5 v6 v7 v8 v9 v10 v11:=by kernel_rfl
theorem sg:(ki v0 v1 v2 v3 v4 v5 v6 v7 v8 v9 v10 v11).lookup ("things" : Str)=some v3:=by kernel_rfl
theorem uq:(ki v0 v1 v2 v3 v4 v5 v6 v7 v8 v9 v10 v11).lookup ("base" : Str)=some v4:=by kernel_rfl
theorem vQ:(ki v0 v1 v2 v3 v4 v5 v6 v7 v8 v9 v10 v11).lookup ("top" : Str)=some v5:=by kernel_rfl
theorem uo:(ki v0 v1 v2 v3 v4 v5 v6 v7 v8 v9 v10 v11).lookup ("edge" : Str)=some v6:=by kernel_rfl
theorem vP:(ki v0 v1 v2 v3 v4 v5 v6 v7 v8 v9 v10 v11).lookup ("many" : Str)=none:=by kernel_rfl
noncomputable def um (a d:V):List (Str×V):=[("ring",a),("room",d)]
theorem An:(um v0 v1).length<1000:=by show 2<1000;decide
theorem Am:bu "room" v1 (lB v0)=um v0 v1:=by kernel_rfl
noncomputable def uk (a i d:V):List (Str×V):=[("ring",a),("room",i),("got",d)]
theorem Al:(uk v0 v1 v2).length<1000:=by show 3<1000;decide
theorem Ak:bu "got" v2 (um v0 v1)=uk v0 v1 v2:=by kernel_rfl
noncomputable def uj (a j d i:V):List (Str×V):=[("ring",a),("room",j),("got",d),("out",i)]
theorem Aj:(uj v0 v1 v2 v3).length<1000:=by show 4<1000;decide
theorem Ai:bu "out" v3 (uk v0 v1 v2)=uj v0 v1 v2 v3:=by kernel_rfl
noncomputable def vO (a j d i m:V):List (Str×V):=[("ring",a),("room",j),("got",d),("out",i),("kept",m)]
theorem Dj:bu "kept" v4 (uj v0 v1 v2 v3)=vO v0 v1 v2 v3 v4:=by kernel_rfl
theorem xg:(vO v0 v1 v2 v3 v4).lookup ("got" : Str)=some v2:=by kernel_rfl
theorem xf:(vO v0 v1 v2 v3 v4).lookup ("out" : Str)=some v3:=by kernel_rfl
noncomputable def xq (a:V):List (Str×V):=[("side",a)]
theorem Bq:(xq v0).length<1000:=by show 1<1000;decide
theorem Bp:bu "side" v0 []=xq v0:=by kernel_rfl
noncomputable def pU (a d:V):List (Str×V):=[("side",a),("ring",d)]
theorem Bo:(pU v0 v1).length<1000:=by show 2<1000;decide
theorem Bn:bu "ring" v1 (xq v0)=pU v0 v1:=by kernel_rfl
noncomputable def i5 (a i d:V):List (Str×V):=[("side",a),("ring",i),("taker",d)]
theorem Bm:(i5 v0 v1 v2).length<1000:=by show 3<1000;decide
theorem Bl:bu "taker" v2 (pU v0 v1)=i5 v0 v1 v2:=by kernel_rfl
noncomputable def hG (a j d i:V):List (Str×V):=[("side",a),("ring",j),("taker",d),("sender",i)]
theorem Bk:(hG v0 v1 v2 v3).length<1000:=by show 4<1000;decide
theorem Bj:bu "sender" v3 (i5 v0 v1 v2)=hG v0 v1 v2 v3:=by kernel_rfl
noncomputable def xp (a j d i m:V):List (Str×V):=[("side",a),("ring",j),("taker",d),("sender",i),("state",m)]
theorem Bi:(xp v0 v1 v2 v3 v4).length<1000:=by show 5<1000;decide
theorem Bh:bu "state" v4 (hG v0 v1 v2 v3)=xp v0 v1 v2 v3 v4:=by kernel_rfl
noncomputable def sZ (a m i j n d:V):List (Str×V):=[("side",a),("ring",m),("taker",i),("sender",j),("state",n),("answer_due",d)]
theorem Bg:(sZ v0 v1 v2 v3 v4 v5).length<1000:=by show 6<1000;decide
theorem Bf:bu "answer_due" v5 (xp v0 v1 v2 v3 v4)=sZ v0 v1 v2 v3 v4 v5:=by kernel_rfl
noncomputable def mZ (a m i j n d s:V):List (Str×V):=[("side",a),("ring",m),("taker",i),("sender",j),("state",n),("answer_due",d),("end_places",s)]
theorem Ec:bu "end_places" v6 (sZ v0 v1 v2 v3 v4 v5)=mZ v0 v1 v2 v3 v4 v5 v6:=by kernel_rfl
theorem vR:(mZ v0 v1 v2 v3 v4 v5 v6).lookup ("taker" : Str)=some v2:=by kernel_rfl
theorem ux:(mZ v0 v1 v2 v3 v4 v5 v6).lookup ("sender" : Str)=some v3:=by kernel_rfl
theorem vS:(mZ v0 v1 v2 v3 v4 v5 v6).lookup ("state" : Str)=some v4:=by kernel_rfl
theorem qu:(mZ v0 v1 v2 v3 v4 v5 v6).lookup ("answer_due" : Str)=some v5:=by kernel_rfl
theorem yO:(mZ v0 v1 v2 v3 v4 v5 v6).lookup ("name" : Str)=none:=by kernel_rfl
theorem xo:(mZ v0 v1 v2 v3 v4 v5 v6).lookup ("quiet" : Str)=none:=by kernel_rfl
noncomputable def w_ (a:V):List (Str×V):=[("roads",a)]
theorem Ba:(w_ v0).length<1000:=by show 1<1000;decide
theorem A_:bu "roads" v0 []=w_ v0:=by kernel_rfl
noncomputable def jz (a d:V):List (Str×V):=[("roads",a),("terms",d)]
theorem A7:bu "terms" v1 (w_ v0)=jz v0 v1:=by kernel_rfl
noncomputable def B7 (a i d:V):List (Str×V):=[("roads",a),("terms",i),("deeds",d)]
noncomputable def B6 (a j d i:V):List (Str×V):=[("roads",a),("terms",j),("deeds",d),("wishes",i)]
noncomputable def i4 (a j d i m:V):List (Str×V):=[("roads",a),("terms",j),("deeds",d),("wishes",i),("last_wish",m)]
noncomputable def m8 (a m i j n d:V):List (Str×V):=[("roads",a),("terms",m),("deeds",i),("wishes",j),("last_wish",n),("hands",d)]
noncomputable def w9 (a m i j n d s:V):List (Str×V):=[("roads",a),("terms",m),("deeds",i),("wishes",j),("last_wish",n),("hands",d),("outs",s)]
noncomputable def w6 (a m i j s d u n:V):List (Str×V):=[("roads",a),("terms",m),("deeds",i),("wishes",j),("last_wish",s),("hands",d),("outs",u),("told",n)]
noncomputable def dA (a m i j u d v n s:V):List (Str×V):=[("roads",a),("terms",m),("deeds",i),("wishes",j),("last_wish",u),("hands",d),("outs",v),("told",n),("turn",s)]
theorem vH:(dA v0 v1 v2 v3 v4 v5 v6 v7 v8).lookup ("roads" : Str)=some v0:=by kernel_rfl
theorem vG:(dA v0 v1 v2 v3 v4 v5 v6 v7 v8).lookup ("terms" : Str)=some v1:=by kernel_rfl
theorem vJ:(dA v0 v1 v2 v3 v4 v5 v6 v7 v8).lookup ("deeds" : Str)=some v2:=by kernel_rfl
theorem uc:(dA v0 v1 v2 v3 v4 v5 v6 v7 v8).lookup ("wishes" : Str)=some v3:=by kernel_rfl
theorem qU:(dA v0 v1 v2 v3 v4 v5 v6 v7 v8).lookup ("last_wish" : Str)=some v4:=by kernel_rfl
theorem vI:(dA v0 v1 v2 v3 v4 v5 v6 v7 v8).lookup ("hands" : Str)=some v5:=by kernel_rfl
theorem w5:(dA v0 v1 v2 v3 v4 v5 v6 v7 v8).lookup ("outs" : Str)=some v6:=by kernel_rfl
theorem pS:(dA v0 v1 v2 v3 v4 v5 v6 v7 v8).lookup ("turn" : Str)=some v8:=by kernel_rfl
theorem vF:(dA v0 v1 v2 v3 v4 v5 v6 v7 v8).lookup ("unread" : Str)=none:=by kernel_rfl
theorem wZ:(dA v0 v1 v2 v3 v4 v5 v6 v7 v8).lookup ("quiet" : Str)=none:=by kernel_rfl
theorem o4:(dA v0 v1 v2 v3 v4 v5 v6 v7 v8).lookup ("side_is_quiet" : Str)=none:=by kernel_rfl
theorem z8:(dA v0 v1 v2 v3 v4 v5 v6 v7 v8).lookup ("run" : Str)=none:=by kernel_rfl
theorem tF:(dA v0 v1 v2 v3 v4 v5 v6 v7 v8).lookup ("given_in" : Str)=none:=by kernel_rfl
theorem rZ:(dA v0 v1 v2 v3 v4 v5 v6 v7 v8).lookup ("given_out" : Str)=none:=by kernel_rfl
noncomputable def pT (a:V):List (Str×V):=[("terms",a)]
theorem Bb:bu "terms" v0 []=pT v0:=by kernel_rfl
noncomputable def lC (a d:V):List (Str×V):=[("terms",a),("deeds",d)]
noncomputable def B_ (a i d:V):List (Str×V):=[("terms",a),("deeds",i),("wishes",d)]
noncomputable def bB (a j d i:V):List (Str×V):=[("terms",a),("deeds",j),("wishes",d),("walk",i)]
theorem vM:(bB v0 v1 v2 v3).lookup ("terms" : Str)=some v0:=by kernel_rfl
theorem vN:(bB v0 v1 v2 v3).lookup ("deeds" : Str)=some v1:=by kernel_rfl
theorem ui:(bB v0 v1 v2 v3).lookup ("wishes" : Str)=some v2:=by kernel_rfl
theorem xc:(bB v0 v1 v2 v3).lookup ("walk" : Str)=some v3:=by kernel_rfl
theorem tG:(bB v0 v1 v2 v3).lookup ("hear_row" : Str)=none:=by kernel_rfl
theorem sf:(bB v0 v1 v2 v3).lookup ("hear_road" : Str)=none:=by kernel_rfl
theorem se:(bB v0 v1 v2 v3).lookup ("hear_wish" : Str)=none:=by kernel_rfl
theorem r_:(bB v0 v1 v2 v3).lookup ("made_walk" : Str)=none:=by kernel_rfl
theorem xb:(bB v0 v1 v2 v3).lookup ("go_to" : Str)=none:=by kernel_rfl
theorem vL:(bB v0 v1 v2 v3).lookup ("run_to" : Str)=none:=by kernel_rfl
theorem qV:(bB v0 v1 v2 v3).lookup ("tell_whole" : Str)=none:=by kernel_rfl
theorem r9:(bB v0 v1 v2 v3).lookup ("tell_side" : Str)=none:=by kernel_rfl
noncomputable def xt (a:V):List (Str×V):=[("talk",a)]
theorem Bs:(xt v0).length<1000:=by show 1<1000;decide
theorem Br:bu "talk" v0 []=xt v0:=by kernel_rfl
noncomputable def br (a d:V):List (Str×V):=[("talk",a),("rows_answered",d)]
theorem Ee:(br v0 v1).length<1000:=by show 2<1000;decide
theorem Ed:bu "rows_answered" v1 (xt v0)=br v0 v1:=by kernel_rfl
theorem xr:(br v0 v1).lookup ("talk" : Str)=some v0:=by kernel_rfl
theorem oj:(br v0 v1).lookup ("rows_answered" : Str)=some v1:=by kernel_rfl
theorem oi:bu "rows_answered" x (br v0 v1)=br v0 x:=by kernel_rfl
theorem sv:(br v0 v1).lookup ("say" : Str)=none:=by kernel_rfl
theorem sy:(br v0 v1).lookup ("answer_to" : Str)=none:=by kernel_rfl
theorem qW:(br v0 v1).lookup ("hear_terms" : Str)=none:=by kernel_rfl
end
abbrev aG:Addr:=287
abbrev aH:Addr:=332
abbrev ay:Addr:=487
abbrev aE:Addr:=550
abbrev ag:Addr:=691
abbrev aB:Addr:=1039
abbrev aC:Addr:=1158
abbrev aD:Addr:=1312
abbrev aO:Addr:=1513
abbrev bo:Addr:=1555
abbrev aU:Addr:=24
abbrev aR:Addr:=44
abbrev aX:Addr:=63
abbrev aQ:Addr:=82
abbrev av:Addr:=101
abbrev az:Addr:=113
abbrev aA:Addr:=132
abbrev aS:Addr:=144
abbrev aV:Addr:=163
abbrev aw:Addr:=182
abbrev aM:Addr:=201
abbrev NV:Addr:=754
abbrev aI:Addr:=789
abbrev ar:Addr:=829
abbrev aJ:Addr:=869
abbrev aK:Addr:=902
abbrev ao:Addr:=935
abbrev ak:Addr:=961
abbrev aq:Addr:=987
structure Txt (K:W.Frag) (mg:Str->Option Value):Prop where
 qo:cE K mg "Road" aG
 qi:a_ K aG "deeds"
 mG:a_ K aG "sendings"
 l8:a_ K aG "coming"
 bE:cE K mg "Terms" aH
 h8:a_ K aH "ring"
 cH:a_ K aH "rooms"
 hJ:a_ K aH "lag"
 jO:a_ K aH "first"
 dF:a_ K aH "longest"
 qp:cE K mg "Meter" ay
 qj:a_ K ay "most"
 nM:a_ K ay "window"
 qk:a_ K ay "knee"
 mH:a_ K ay "counted"
 ub:cE K mg "Ways" aE
 nJ:a_ K aE "longest"
 oW:a_ K aE "smooth"
 oV:a_ K aE "spread"
 rP:a_ K aE "wait"
 bw:cE K mg "Sender" ag
 oY:a_ K ag "ring"
 oX:a_ K ag "ways"
 nK:a_ K ag "meter"
 iG:a_ K ag "things"
 jP:a_ K ag "base"
 kP:a_ K ag "top"
 l7:a_ K ag "edge"
 nL:a_ K ag "clock"
 i8:a_ K ag "base_hurried"
 i7:a_ K ag "known_places"
 jm:a_ K ag "first_turns"
 jK:a_ K ag "gone_again"
 jV:cE K mg "Taker" aB
 qg:a_ K aB "ring"
 qf:a_ K aB "room"
 mi:a_ K aB "got"
 mh:a_ K aB "out"
 qh:a_ K aB "kept"
 bZ:cE K mg "Hand" aC
 rR:a_ K aC "side"
 rS:a_ K aC "ring"
 jx:a_ K aC "taker"
 bT:a_ K aC "sender"
 mY:a_ K aC "state"
 i_:a_ K aC "answer_due"
 kQ:a_ K aC "end_places"
 bD:cE K mg "Walk" aD
 mW:a_ K aD "roads"
 mV:a_ K aD "terms"
 mX:a_ K aD "deeds"
 l6:a_ K aD "wishes"
 jv:a_ K aD "last_wish"
 hZ:a_ K aD "hands"
 oA:a_ K aD "outs"
 rQ:a_ K aD "told"
 jk:a_ K aD "turn"
 bJ:cE K mg "Talk" aO
 jw:a_ K aO "terms"
 h_:a_ K aO "deeds"
 fW:a_ K aO "wishes"
 hU:a_ K aO "walk"
 j4:cE K mg "Desk" bo
 kh:a_ K bo "talk"
 bX:a_ K bo "rows_answered"
 pV:qI K mg "RoadError" aU
 y_:qI K mg "NoFrame" aR
 By:qI K mg "Spoilt" aX
 y9:qI K mg "NoPiece" aQ
 pX:qI K mg "BadRoad" av
 om:qI K mg "BadTerms" az
 pW:qI K mg "NotWide" aA
 zc:qI K mg "BadText" aS
 Bz:qI K mg "NotNow" aV
 tQ:qI K mg "BadWish" aw
 y8:qI K mg "NoRow" aM
 BB:L8 K mg "NoFrame" aR aU
 pL:m7 K aR
 zZ:W.keepIn K (.ref aR)=true
 fX:xJ K aR "frame"
 nz:W.kitOne K (.ref aR) (.type "ValueError")=some true
 cp:W.kitOne K (.ref aR) (.ref aU)=some true
 cz:isx K (.ref aR) aU=some true
 d5:W.kitOne K (.ref aR) (.ref aR)=some true
 ff:isx K (.ref aR) aR=some true
 gs:W.kitOne K (.ref aR) (.ref aX)=some false
 gU:isx K (.ref aR) aX=some false
 d4:W.kitOne K (.ref aR) (.ref aQ)=some false
 fc:isx K (.ref aR) aQ=some false
 d8:W.kitOne K (.ref aR) (.ref av)=some false
 fq:isx K (.ref aR) av=some false
 cP:W.kitOne K (.ref aR) (.ref az)=some false
 dc:isx K (.ref aR) az=some false
 dZ:W.kitOne K (.ref aR) (.ref aA)=some false
 fb:isx K (.ref aR) aA=some false
 d7:W.kitOne K (.ref aR) (.ref aS)=some false
 fj:isx K (.ref aR) aS=some false
 gu:W.kitOne K (.ref aR) (.ref aV)=some false
 gV:isx K (.ref aR) aV=some false
 d6:W.kitOne K (.ref aR) (.ref aw)=some false
 fh:isx K (.ref aR) aw=some false
 iC:W.kitOne K (.ref aR) (.ref aM)=some false
 iT:isx K (.ref aR) aM=some false
 Dy:L8 K mg "Spoilt" aX aU
 rX:m7 K aX
 BY:W.keepIn K (.ref aX)=true
 ib:xJ K aX "frame"
 pD:W.kitOne K (.ref aX) (.type "ValueError")=some true
 cL:W.kitOne K (.ref aX) (.ref aU)=some true
 c7:isx K (.ref aX) aU=some true
 f_:W.kitOne K (.ref aX) (.ref aR)=some false
 gF:isx K (.ref aX) aR=some false
 ik:W.kitOne K (.ref aX) (.ref aX)=some true
 iH:isx K (.ref aX) aX=some true
 f9:W.kitOne K (.ref aX) (.ref aQ)=some false
 gE:isx K (.ref aX) aQ=some false
 gd:W.kitOne K (.ref aX) (.ref av)=some false
 gI:isx K (.ref aX) av=some false
 dG:W.kitOne K (.ref aX) (.ref az)=some false
 eR:isx K (.ref aX) az=some false
 f7:W.kitOne K (.ref aX) (.ref aA)=some false
 gD:isx K (.ref aX) aA=some false
 gc:W.kitOne K (.ref aX) (.ref aS)=some false
 gH:isx K (.ref aX) aS=some false
 ip:W.kitOne K (.ref aX) (.ref aV)=some false
 iI:isx K (.ref aX) aV=some false
 gb:W.kitOne K (.ref aX) (.ref aw)=some false
 gG:isx K (.ref aX) aw=some false
 jb:W.kitOne K (.ref aX) (.ref aM)=some false
 jn:isx K (.ref aX) aM=some false
 BA:L8 K mg "NoPiece" aQ aU
 pK:m7 K aQ
 zY:W.keepIn K (.ref aQ)=true
 ig:xJ K aQ "what"
 nu:W.kitOne K (.ref aQ) (.type "ValueError")=some true
 cn:W.kitOne K (.ref aQ) (.ref aU)=some true
 cy:isx K (.ref aQ) aU=some true
 dU:W.kitOne K (.ref aQ) (.ref aR)=some false
 e7:isx K (.ref aQ) aR=some false
 gq:W.kitOne K (.ref aQ) (.ref aX)=some false
 gS:isx K (.ref aQ) aX=some false
 dS:W.kitOne K (.ref aQ) (.ref aQ)=some true
 e6:isx K (.ref aQ) aQ=some true
 dY:W.kitOne K (.ref aQ) (.ref av)=some false
 e_:isx K (.ref aQ) av=some false
 cO:W.kitOne K (.ref aQ) (.ref az)=some false
 c_:isx K (.ref aQ) az=some false
 dR:W.kitOne K (.ref aQ) (.ref aA)=some false
 eZ:isx K (.ref aQ) aA=some false
 dX:W.kitOne K (.ref aQ) (.ref aS)=some false
 e9:isx K (.ref aQ) aS=some false
 gr:W.kitOne K (.ref aQ) (.ref aV)=some false
 gT:isx K (.ref aQ) aV=some false
 dW:W.kitOne K (.ref aQ) (.ref aw)=some false
 e8:isx K (.ref aQ) aw=some false
 iB:W.kitOne K (.ref aQ) (.ref aM)=some false
 iS:isx K (.ref aQ) aM=some false
 pA:L8 K mg "BadRoad" av aU
 pO:m7 K av
 qm:W.keepIn K (.ref av)=true
 iZ:xJ K av "at"
 nC:W.kitOne K (.ref av) (.type "ValueError")=some true
 cw:W.kitOne K (.ref av) (.ref aU)=some true
 cD:isx K (.ref av) aU=some true
 eL:W.kitOne K (.ref av) (.ref aR)=some false
 fO:isx K (.ref av) aR=some false
 gA:W.kitOne K (.ref av) (.ref aX)=some false
 g8:isx K (.ref av) aX=some false
 eK:W.kitOne K (.ref av) (.ref aQ)=some false
 fN:isx K (.ref av) aQ=some false
 eP:W.kitOne K (.ref av) (.ref av)=some true
 fR:isx K (.ref av) av=some true
 cY:W.kitOne K (.ref av) (.ref az)=some false
 dz:isx K (.ref av) az=some false
 eJ:W.kitOne K (.ref av) (.ref aA)=some false
 fM:isx K (.ref av) aA=some false
 eO:W.kitOne K (.ref av) (.ref aS)=some false
 fQ:isx K (.ref av) aS=some false
 gB:W.kitOne K (.ref av) (.ref aV)=some false
 g9:isx K (.ref av) aV=some false
 eN:W.kitOne K (.ref av) (.ref aw)=some false
 fP:isx K (.ref av) aw=some false
 iF:W.kitOne K (.ref av) (.ref aM)=some false
 iW:isx K (.ref av) aM=some false
 pY:AG K mg "BadTerms" az aU none
 nN:m7 K az
 mf:W.kitOne K (.ref az) (.type "ValueError")=some true
 bW:W.kitOne K (.ref az) (.ref aU)=some true
 bY:isx K (.ref az) aU=some true
 cU:W.kitOne K (.ref az) (.ref aR)=some false
 dn:isx K (.ref az) aR=some false
 eG:W.kitOne K (.ref az) (.ref aX)=some false
 fK:isx K (.ref az) aX=some false
 cT:W.kitOne K (.ref az) (.ref aQ)=some false
 di:isx K (.ref az) aQ=some false
 cX:W.kitOne K (.ref az) (.ref av)=some false
 du:isx K (.ref az) av=some false
 cv:W.kitOne K (.ref az) (.ref az)=some true
 cC:isx K (.ref az) az=some true
 cS:W.kitOne K (.ref az) (.ref aA)=some false
 dh:isx K (.ref az) aA=some false
 cW:W.kitOne K (.ref az) (.ref aS)=some false
 dr:isx K (.ref az) aS=some false
 eI:W.kitOne K (.ref az) (.ref aV)=some false
 fL:isx K (.ref az) aV=some false
 cV:W.kitOne K (.ref az) (.ref aw)=some false
 dq:isx K (.ref az) aw=some false
 gz:W.kitOne K (.ref az) (.ref aM)=some false
 g7:isx K (.ref az) aM=some false
 sQ:L8 K mg "NotWide" aA aU
 pJ:m7 K aA
 t_:W.keepIn K (.ref aA)=true
 cI:xJ K aA "least"
 nr:W.kitOne K (.ref aA) (.type "ValueError")=some true
 cm:W.kitOne K (.ref aA) (.ref aU)=some true
 cx:isx K (.ref aA) aU=some true
 dJ:W.kitOne K (.ref aA) (.ref aR)=some false
 eU:isx K (.ref aA) aR=some false
 gf:W.kitOne K (.ref aA) (.ref aX)=some false
 gJ:isx K (.ref aA) aX=some false
 dI:W.kitOne K (.ref aA) (.ref aQ)=some false
 eT:isx K (.ref aA) aQ=some false
 dO:W.kitOne K (.ref aA) (.ref av)=some false
 eX:isx K (.ref aA) av=some false
 cM:W.kitOne K (.ref aA) (.ref az)=some false
 c8:isx K (.ref aA) az=some false
 dH:W.kitOne K (.ref aA) (.ref aA)=some true
 eS:isx K (.ref aA) aA=some true
 dN:W.kitOne K (.ref aA) (.ref aS)=some false
 eW:isx K (.ref aA) aS=some false
 gg:W.kitOne K (.ref aA) (.ref aV)=some false
 gK:isx K (.ref aA) aV=some false
 dM:W.kitOne K (.ref aA) (.ref aw)=some false
 eV:isx K (.ref aA) aw=some false
 iq:W.kitOne K (.ref aA) (.ref aM)=some false
 iJ:isx K (.ref aA) aM=some false
 BC:AG K mg "BadText" aS aU none
 pN:m7 K aS
 nB:W.kitOne K (.ref aS) (.type "ValueError")=some true
 cu:W.kitOne K (.ref aS) (.ref aU)=some true
 cB:isx K (.ref aS) aU=some true
 eB:W.kitOne K (.ref aS) (.ref aR)=some false
 fF:isx K (.ref aS) aR=some false
 gx:W.kitOne K (.ref aS) (.ref aX)=some false
 gY:isx K (.ref aS) aX=some false
 eA:W.kitOne K (.ref aS) (.ref aQ)=some false
 fE:isx K (.ref aS) aQ=some false
 eF:W.kitOne K (.ref aS) (.ref av)=some false
 fJ:isx K (.ref aS) av=some false
 cR:W.kitOne K (.ref aS) (.ref az)=some false
 dg:isx K (.ref aS) az=some false
 ez:W.kitOne K (.ref aS) (.ref aA)=some false
 fB:isx K (.ref aS) aA=some false
 eE:W.kitOne K (.ref aS) (.ref aS)=some true
 fH:isx K (.ref aS) aS=some true
 gy:W.kitOne K (.ref aS) (.ref aV)=some false
 gZ:isx K (.ref aS) aV=some false
 eC:W.kitOne K (.ref aS) (.ref aw)=some false
 fG:isx K (.ref aS) aw=some false
 iE:W.kitOne K (.ref aS) (.ref aM)=some false
 iV:isx K (.ref aS) aM=some false
 Dz:L8 K mg "NotNow" aV aU
 rY:m7 K aV
 BZ:W.keepIn K (.ref aV)=true
 ie:xJ K aV "state"
 ja:xJ K aV "wish"
 pE:W.kitOne K (.ref aV) (.type "ValueError")=some true
 cN:W.kitOne K (.ref aV) (.ref aU)=some true
 c9:isx K (.ref aV) aU=some true
 gk:W.kitOne K (.ref aV) (.ref aR)=some false
 gN:isx K (.ref aV) aR=some false
 ir:W.kitOne K (.ref aV) (.ref aX)=some false
 iK:isx K (.ref aV) aX=some false
 gj:W.kitOne K (.ref aV) (.ref aQ)=some false
 gM:isx K (.ref aV) aQ=some false
 gp:W.kitOne K (.ref aV) (.ref av)=some false
 gQ:isx K (.ref aV) av=some false
 dP:W.kitOne K (.ref aV) (.ref az)=some false
 eY:isx K (.ref aV) az=some false
 gi:W.kitOne K (.ref aV) (.ref aA)=some false
 gL:isx K (.ref aV) aA=some false
 gn:W.kitOne K (.ref aV) (.ref aS)=some false
 gP:isx K (.ref aV) aS=some false
 iw:W.kitOne K (.ref aV) (.ref aV)=some true
 iL:isx K (.ref aV) aV=some true
 gm:W.kitOne K (.ref aV) (.ref aw)=some false
 gO:isx K (.ref aV) aw=some false
 jc:W.kitOne K (.ref aV) (.ref aM)=some false
 jo:isx K (.ref aV) aM=some false
 sR:L8 K mg "BadWish" aw aU
 pM:m7 K aw
 ua:W.keepIn K (.ref aw)=true
 iY:xJ K aw "at"
 nA:W.kitOne K (.ref aw) (.type "ValueError")=some true
 cq:W.kitOne K (.ref aw) (.ref aU)=some true
 cA:isx K (.ref aw) aU=some true
 eh:W.kitOne K (.ref aw) (.ref aR)=some false
 fv:isx K (.ref aw) aR=some false
 gv:W.kitOne K (.ref aw) (.ref aX)=some false
 gW:isx K (.ref aw) aX=some false
 d_:W.kitOne K (.ref aw) (.ref aQ)=some false
 fu:isx K (.ref aw) aQ=some false
 et:W.kitOne K (.ref aw) (.ref av)=some false
 fA:isx K (.ref aw) av=some false
 cQ:W.kitOne K (.ref aw) (.ref az)=some false
 df:isx K (.ref aw) az=some false
 d9:W.kitOne K (.ref aw) (.ref aA)=some false
 ft:isx K (.ref aw) aA=some false
 en:W.kitOne K (.ref aw) (.ref aS)=some false
 fz:isx K (.ref aw) aS=some false
 gw:W.kitOne K (.ref aw) (.ref aV)=some false
 gX:isx K (.ref aw) aV=some false
 ek:W.kitOne K (.ref aw) (.ref aw)=some true
 fw:isx K (.ref aw) aw=some true
 iD:W.kitOne K (.ref aw) (.ref aM)=some false
 iU:isx K (.ref aw) aM=some false
 yT:L8 K mg "NoRow" aM aU
 sY:m7 K aM
 zX:W.keepIn K (.ref aM)=true
 j8:xJ K aM "at"
 rK:W.kitOne K (.ref aM) (.type "ValueError")=some true
 dQ:W.kitOne K (.ref aM) (.ref aU)=some true
 b9:isx K (.ref aM) aU=some true
 iz:W.kitOne K (.ref aM) (.ref aR)=some false
 iO:isx K (.ref aM) aR=some false
 jd:W.kitOne K (.ref aM) (.ref aX)=some false
 jq:isx K (.ref aM) aX=some false
 iy:W.kitOne K (.ref aM) (.ref aQ)=some false
 iN:isx K (.ref aM) aQ=some false
 dE:W.kitOne K (.ref aM) (.ref av)=some false
 iR:isx K (.ref aM) av=some false
 cJ:W.kitOne K (.ref aM) (.ref az)=some false
 gR:isx K (.ref aM) az=some false
 dB:W.kitOne K (.ref aM) (.ref aA)=some false
 iM:isx K (.ref aM) aA=some false
 iA:W.kitOne K (.ref aM) (.ref aS)=some false
 iQ:isx K (.ref aM) aS=some false
 je:W.kitOne K (.ref aM) (.ref aV)=some false
 jr:isx K (.ref aM) aV=some false
 dC:W.kitOne K (.ref aM) (.ref aw)=some false
 iP:isx K (.ref aM) aw=some false
 jN:W.kitOne K (.ref aM) (.ref aM)=some true
 jQ:isx K (.ref aM) aM=some true
 F5:cE K mg "State" NV
 Dd:cE K mg "Shut" aI
 wV:cE K mg "Calling" ar
 E2:cE K mg "Open" aJ
 E3:cE K mg "Left" aK
 wR:cE K mg "Leaving" ao
 wQ:cE K mg "Waiting" ak
 wU:cE K mg "Closing" aq
 Dc:wb K aI
 zW:wb K ar
 F0:wb K aJ
 F3:wb K aK
 zU:wb K ao
 zS:wb K ak
 zV:wb K aq
 lX:mg "signs_of_desk" = mg "signs_of"
 j7:MethAt K av "__init__" "BadRoad.__init__" (ic 5 0)
 j5:MethAt K aA "__init__" "NotWide.__init__" (ic 7 0)
 j6:MethAt K aw "__init__" "BadWish.__init__" (ic 10 0)
 lQ:MethAt K aM "__init__" "NoRow.__init__" (ic 11 0)
 xA:bA K mg "is_from" (top 13)
 Ax:bA K mg "copied" (top 20)
 lG:bA K mg "has_whole_copy" (top 22)
 uF:bA K mg "fairness" (top 23)
 xC:bA K mg "is_copy" (top 24)
 xB:bA K mg "is_deed" (top 25)
 qw:bA K mg "check_road" (top 26)
 mN:MethAt K aG "__init__" "Road.__init__" (ic 27 0)
 lP:MethAt K aG "under_way" "Road.under_way" (ic 27 3)
 Fb:bA K mg "need" (top 31)
 sF:bA K mg "are_rooms" (top 38)
 sE:bA K mg "are_waits" (top 39)
 lJ:MethAt K aH "__init__" "Terms.__init__" (ic 40 0)
 uC:bA K mg "signs_of" (top 142)
 lR:MethAt K ay "__init__" "Meter.__init__" (ic 73 0)
 mI:MethAt K aE "__init__" "Ways.__init__" (ic 77 0)
 kW:MethAt K ag "__init__" "Sender.__init__" (ic 80 0)
 o_:MethAt K ag "many" "Sender.many" (ic 80 2)
 nY:MethAt K ag "thing" "Sender.thing" (ic 80 3)
 sH:MethAt K aI "name" "Shut.name" (ic 83 0)
 n6:MethAt K ar "name" "Calling.name" (ic 84 0)
 sI:MethAt K aJ "name" "Open.name" (ic 85 0)
 sJ:MethAt K aK "name" "Left.name" (ic 86 0)
 nZ:MethAt K ao "name" "Leaving.name" (ic 87 0)
 nX:MethAt K ak "name" "Waiting.name" (ic 88 0)
 n5:MethAt K aq "name" "Closing.name" (ic 89 0)
 lO:MethAt K aB "__init__" "Taker.__init__" (ic 91 0)
 xy:bA K mg "is_text" (top 96)
 mO:MethAt K aC "__init__" "Hand.__init__" (ic 98 0)
 sL:MethAt K aC "name" "Hand.name" (ic 98 1)
 qD:MethAt K aC "quiet" "Hand.quiet" (ic 98 12)
 xv:bA K mg "is_wish" (top 104)
 uE:bA K mg "is_value" (top 105)
 nT:bA K mg "check_wishes" (top 106)
 nR:bA K mg "last_turn_of" (top 107)
 mK:MethAt K aD "__init__" "Walk.__init__" (ic 109 0)
 sG:MethAt K aD "step" "Walk.step" (ic 109 1)
 o8:MethAt K aD "unread" "Walk.unread" (ic 109 7)
 qB:MethAt K aD "quiet" "Walk.quiet" (ic 109 10)
 jt:MethAt K aD "side_is_quiet" "Walk.side_is_quiet" (ic 109 11)
 uH:MethAt K aD "run" "Walk.run" (ic 109 12)
 mJ:MethAt K aD "given_in" "Walk.given_in" (ic 109 14)
 lI:MethAt K aD "given_out" "Walk.given_out" (ic 109 15)
 sD:bA K mg "number_of" (top 116)
 qv:bA K mg "numbers_of" (top 117)
 lF:bA K mg "row_of_numbers" (top 118)
 nQ:bA K mg "row_of_terms" (top 119)
 uB:bA K mg "terms_of" (top 120)
 nO:bA K mg "word_of_deed" (top 122)
 o7:bA K mg "row_of_road" (top 123)
 xE:bA K mg "copy_of" (top 124)
 xD:bA K mg "deed_of" (top 125)
 nP:bA K mg "side_of_road" (top 126)
 uG:bA K mg "deeds_of" (top 127)
 o6:bA K mg "row_of_wish" (top 128)
 xu:bA K mg "wish_of" (top 129)
 uz:bA K mg "value_of" (top 130)
 uA:bA K mg "turns_of" (top 131)
 sC:bA K mg "things_of" (top 134)
 lE:bA K mg "things_at_most" (top 135)
 uD:bA K mg "reckoned" (top 136)
 Fc:bA K mg "kept" (top 138)
 mM:MethAt K aO "__init__" "Talk.__init__" (ic 144 0)
 mL:MethAt K aO "hear_row" "Talk.hear_row" (ic 144 1)
 lN:MethAt K aO "hear_road" "Talk.hear_road" (ic 144 2)
 lM:MethAt K aO "hear_wish" "Talk.hear_wish" (ic 144 3)
 lL:MethAt K aO "made_walk" "Talk.made_walk" (ic 144 4)
 qC:MethAt K aO "go_to" "Talk.go_to" (ic 144 5)
 o9:MethAt K aO "run_to" "Talk.run_to" (ic 144 6)
 kU:MethAt K aO "tell_whole" "Talk.tell_whole" (ic 144 7)
 lK:MethAt K aO "tell_side" "Talk.tell_side" (ic 144 8)
 mP:MethAt K bo "__init__" "Desk.__init__" (ic 145 0)
 uI:MethAt K bo "say" "Desk.say" (ic 145 1)
 lS:MethAt K bo "answer_to" "Desk.answer_to" (ic 145 2)
 kX:MethAt K bo "hear_terms" "Desk.hear_terms" (ic 145 3)
 nW:bA K mg "_law_cell_at" (top 147)
 qx:bA K mg "_law_mixed" (top 148)
 nV:bA K mg "_law_numbers" (top 149)
 qy:bA K mg "_law_early" (top 150)
 nU:bA K mg "_law_refused" (top 151)
 lH:bA K mg "_law_terms_row" (top 152)
 qz:bA K mg "_law_bound" (top 153)
 qA:bA K mg "_law_asked" (top 154)
 Gz:bA K mg "law" (top 155)
 qH:mg "ValueError" = none
 vZ:mg "all" = none
 xI:mg "bool" = none
 mv:mg "enumerate" = none
 AE:mg "int" = none
 bf:mg "isinstance" = none
 hV:mg "len" = none
 AD:mg "list" = none
 AB:mg "max" = none
 LX:mg "min" = none
 y7:mg "range" = none
 oG:mg "str" = none
 GC:mg "sum" = none
 vY:mg "tuple" = none
 LW:mg "zip" = none
 lW:ko mg "LAG_MOST_roads" (.int 60)
 qG:ko mg "DEEDS_MOST" (.int 60)
 pq:ko mg "COPIES_MOST" (.int 3)
 qF:ko mg "PLACE_MOST" (.int 66)
 uK:ko mg "RUN_MOST" (.int 255)
 sN:ko mg "RING_MOST" (.int 64)
 kZ:ko mg "ROOM_MOST_terms" (.int 16)
 lV:ko mg "LAG_MOST_terms" (.int 32)
 ia:ko mg "WAIT_LEAST_terms" (.int 2)
 sM:ko mg "WAIT_MOST" (.int 64)
 vX:ko mg "SIGNS" (.str " !\"#$&'()*+,-./0123456789:;<=>?@ABCDEFGHIJKLMNOPQRSTUVWXYZ[\\]^_`abcdefghijklmnopqrstuvwxyz{|}~")
 mr:ko mg "TEXT_MOST" (.int 60)
 y4:TupAt K mg "SIDES" [.int 0,.int 1]
 l_:ko mg "WISHES_MOST" (.int 60)
 lU:ko mg "WISH_TURN_MOST" (.int 400)
 sP:ko mg "READ_MOST" (.int 60)
 xH:ko mg "FIGURES" (.str "0123456789")
 n8:ko mg "FIGURES_MOST" (.int 9)
 qE:ko mg "TURNS_MOST" (.int 4000)
 m6:TupAt K mg "SIDE_WORDS" [.str "0",.str "1"]
 xG:ko mg "NO_COPY" (.str "-")
 ph:TupAt K mg "WHOLE_WORDS" [.str "quiet",.str "bound",.str "kept"]
 pj:TupAt K mg "SIDED_WORDS" [.str "state",.str "stand",.str "in",.str "out"]
noncomputable section
open PySem W
abbrev Ob:=Obj
abbrev Pm:=Params
noncomputable abbrev q (x:String) (k:Nat):Value:= .str (Str.ofString x) k
noncomputable abbrev tp (x:List Value):Obj:=⟨.type "tuple",none,.seq x.toArray,#[]⟩
noncomputable abbrev fm (n m:String) (t:Stmt):=FuncData.mk (Str.ofString n) (Str.ofString m) (L2.jA t) (.stmts (L2.fT t)) (L2.bp t)
noncomputable abbrev cd (n:String) (a:Nat) (m:String) (b c:Nat) (l d e f g:Int) (r:Nat) (o:Bool) (k:Int) (s:Nat) (v w x y:Value) (i:Int) (z:Nat):Ob:=⟨.type "code",none,.fields #[q n a,q m b,q "/claim/cut.py" c,.int l 0,.int d 0,.int e 0,.int f 0,.int g 0,.ref r,.bool o,.int k 0,.ref s,v,w,x,y,.int i 0,.int l 0,q "/claim/cut.py" z],#[]⟩
noncomputable abbrev f0 (n m:String) (t:Stmt):Ob:=⟨.none,none,.func (fm n m t 0 [] .none .none .none .none none .none .none 0),#[]⟩
noncomputable abbrev f1 (n m:String) (t:Stmt) (c:Nat) (v:Value) (r:Nat):Ob:=⟨.type "function",none,.func (fm n m t c [] .none .none .none v none (.ref r) .none 0),#[]⟩
abbrev den (P:Params) (x:String) (k:Nat) (v:Value):DictEntry:=DictEntry.mk (PyData.keyHash P (Str.ofString x)) (Value.str (Str.ofString x) k) v
def up:List Ob->BT->Nat->BT
 | [],t,_=>t
 |o::r,t,n=>up r (t.ins n o) (n+1)
def ch:List (Nat×Ob)->BT->BT
 | [],t=>t
 |p::r,t=>ch r (t.ins p.1 p.2)
abbrev nt {α:Type} (n m:String) (t:Stmt) (k:String->String->Stmt->α):α:=k n m t
abbrev cf (n m:String) (t:Stmt) (a:Nat) (l d g:Int) (r i:Nat):Ob:=cd n a m (a+1) (a+2) l d 0 0 g r true 181 (r+1) .none (.ref (r+2)) (.ref (r+3)) (.ref (r+4)) i (i+1)
abbrev ck (n:String) (a:Nat) (l:Int) (r:Nat):Ob:=cd n a n (a+1) (a+2) l 0 0 0 0 r false 181 (r+1) .none .none .none .none (a+3) (a+4)
abbrev q0:=q "/claim/cut.py" 172
abbrev q1:=q " !\"#$&'()*+,-./0123456789:;<=>?@ABCDEFGHIJKLMNOPQRSTUVWXYZ[\\]^_`abcdefghijklmnopqrstuvwxyz{|}~" 657
abbrev q2:=q "" 680
abbrev q3:=q "\n" 682
abbrev q4:=q "0123456789" 1941
abbrev q5:=q "-" 1950
abbrev q6:=q "slowroad.errors" 187
abbrev q7:=q "RoadError" 189
abbrev q8:=q "RoadError" 197
abbrev q9:=q "slowroad.roads" 452
abbrev UJ:=q "slowroad.terms" 592
abbrev El:=q "slowroad.pieces" 649
abbrev Ja:=q "slowroad.ways" 866
abbrev MP:=q "slowroad.meter" 795
abbrev yU:=q "slowroad.sender" 953
abbrev la:=q "slowroad.states" 1141
abbrev Yk:=q "State" 1143
abbrev Yj:=q "State" 1151
abbrev BP:=q "slowroad.hand" 1549
abbrev MO:=q "slowroad.taker" 1471
abbrev xR:=q "slowroad.walk" 1717
abbrev AJ:=q "slowroad.desk" 2098
abbrev Ek:=q "slowroad.forms" 1939
abbrev q23:=q "slowroad.reckon" 2067
abbrev L6:=q "law_slowroad_k84_desk_newly_told" 2271
def tql:List String->Nat->List Value
 | [],_=>[]
 |x::r,k=>q x k::tql r (k+1)
abbrev tq (l:List String) (k:Nat):Ob:=tp (tql l k)
def ztl:List (Int×Int×Nat)->List Value
 | []=>[]
 |x::r=> .int x.1 0 :: .int x.2.1 0 :: .ref x.2.2::ztl r
abbrev zt (l:List (Int×Int×Nat)):Ob:=⟨.none,none,.fields (ztl l).toArray,#[]⟩
abbrev zx (n:String) (b m:List Value) (a:Nat) (s:List Value) (d:Option Value) (t u:Value):Ob:=⟨.type "type",none,.cls (.mk (.ofString n) b (m++ [.type "ValueError",.type "Exception",.type "BaseException",.type "object"]) a (.ofString n) true [] s false none false),#[d,none,some t,some u,some (.builtin "ValueError.__new__"),some (.bool true)]⟩
abbrev zo (n:String) (b m:List Value) (a:Nat) (s:List Value) (d:Option Value) (t u:Value):Ob:=⟨.type "type",none,.cls (.mk (.ofString n) b (m++ [.type "object"]) a (.ofString n) true [] s false none false),#[d,none,some t,some u,some (.builtin "object.__new__"),some (.bool true)]⟩
abbrev pg:=Challenge.rw_slowroad_k84_desk_newly_told.row.prog
noncomputable def mdl (P:Pm):List DictEntry:=[den P "__doc__" 166 .none,den P "__package__" 167 .none,den P "__loader__" 168 (.builtin "__main__.__loader__#opaque"),den P "__spec__" 169 .none,den P "__annotations__" 170 (.ref 6),den P "__builtins__" 171 (.ref 4),den P "__file__" 173 q0,den P "__cached__" 174 .none,den P "RoadError" 206 (.ref 24),den P "NoFrame" 231 (.ref 44),den P "Spoilt" 256 (.ref 63),den P "NoPiece" 281 (.ref 82),den P "BadRoad" 306 (.ref 101),den P "BadTerms" 322 (.ref 113),den P "NotWide" 347 (.ref 132),den P "BadText" 363 (.ref 144),den P "NotNow" 390 (.ref 163),den P "BadWish" 415 (.ref 182),den P "NoRow" 440 (.ref 201),den P "is_from" 451 (.ref 210),den P "LAG_MOST_roads" 455 (.int 60 454),den P "DEEDS_MOST" 457 (.int 60 456),den P "COPIES_MOST" 459 (.int 3 458),den P "PLACE_MOST" 461 (.int 66 460),den P "RUN_MOST" 463 (.int 255 462),den P "copied" 469 (.ref 215),den P "deed_at" 477 (.ref 222),den P "has_whole_copy" 483 (.ref 227),den P "fairness" 489 (.ref 232),den P "is_copy" 497 (.ref 239),den P "is_deed" 503 (.ref 244),den P "check_road" 513 (.ref 251),den P "Road" 570 (.ref 287),den P "ahead" 581 (.ref 298),den P "need" 591 (.ref 305),den P "RING_MOST" 595 (.int 64 594),den P "ROOM_MOST_terms" 597 (.int 16 596),den P "LAG_MOST_terms" 599 (.int 32 598),den P "WAIT_LEAST_terms" 601 (.int 2 600),den P "WAIT_MOST" 603 (.int 64 602),den P "are_rooms" 609 (.ref 310),den P "are_waits" 617 (.ref 317),den P "Terms" 648 (.ref 332),den P "KINDS" 656 (.ref 337),den P "SIGNS" 658 q1,den P "UNNUMBERED" 661 (.ref 338),den P "NUMBER_MOST" 663 (.int 63 662),den P "ROOM_MOST_pieces" 665 (.int 16 664),den P "HELD_MOST" 667 (.int 15 666),den P "SIGNS_MOST" 669 (.int 4 668),den P "FRAME_BITS" 671 (.int 74 670),den P "CHECK_BITS" 673 (.int 8 672),den P "DIVISOR" 675 (.int 263 674),den P "DIVISOR_BITS" 677 (.int 9 676),den P "REMAINDER_MOST" 679 (.int 255 678),den P "NO_KIND" 681 q2,den P "NO_SIGN" 683 q3,den P "is_piece" 691 (.ref 345),den P "is_held" 700 (.ref 352),den P "are_signs" 706 (.ref 357),den P "remainder" 714 (.ref 364),den P "written" 722 (.ref 371),den P "body_of" 730 (.ref 378),den P "bits_of_held" 736 (.ref 383),den P "bits_of_signs" 745 (.ref 390),den P "is_frame" 752 (.ref 397),den P "read" 760 (.ref 404),den P "likely_piece" 767 (.ref 411),den P "kind_of" 774 (.ref 418),den P "held_of" 780 (.ref 423),den P "signs_of" 786 (.ref 1442),den P "signs_of_pieces" 787 (.ref 428),den P "sign_of" 794 (.ref 435),den P "Meter" 865 (.ref 487),den P "WAIT_LEAST_ways" 869 (.int 2 868),den P "lowest" 878 (.ref 498),den P "Ways" 952 (.ref 550),den P "KNOWN_TO_HURRY" 956 (.int 2 955),den P "Sender" 1140 (.ref 691),den P "State" 1211 (.ref 754),den P "Shut" 1248 (.ref 789),den P "Calling" 1292 (.ref 829),den P "Open" 1336 (.ref 869),den P "Left" 1373 (.ref 902),den P "Leaving" 1410 (.ref 935),den P "Waiting" 1440 (.ref 961),den P "Closing" 1470 (.ref 987),den P "Taker" 1548 (.ref 1039),den P "TEXT_MOST" 1552 (.int 60 1551),den P "BEGIN" 1555 (.ref 1044),den P "END" 1558 (.ref 1045),den P "is_text" 1564 (.ref 1050),den P "read_or_none" 1571 (.ref 1057),den P "Hand" 1716 (.ref 1158),den P "SIDES" 1721 (.ref 1163),den P "WISHES_MOST" 1723 (.int 60 1722),den P "WISH_TURN_MOST" 1725 (.int 400 1724),den P "READ_MOST" 1727 (.int 60 1726),den P "is_wish" 1734 (.ref 1170),den P "is_value" 1742 (.ref 1177),den P "check_wishes" 1751 (.ref 1184),den P "last_turn_of" 1757 (.ref 1189),den P "own_row" 1764 (.ref 1196),den P "Walk" 1938 (.ref 1312),den P "FIGURES" 1942 q4,den P "FIGURES_MOST" 1944 (.int 9 1943),den P "TURNS_MOST" 1946 (.int 4000 1945),den P "SIDE_WORDS" 1949 (.ref 1317),den P "NO_COPY" 1951 q5,den P "number_of" 1957 (.ref 1322),den P "numbers_of" 1963 (.ref 1327),den P "row_of_numbers" 1969 (.ref 1332),den P "row_of_terms" 1976 (.ref 1339),den P "terms_of" 1985 (.ref 1346),den P "word_of_copy" 1991 (.ref 1351),den P "word_of_deed" 1997 (.ref 1356),den P "row_of_road" 2003 (.ref 1361),den P "copy_of" 2011 (.ref 1368),den P "deed_of" 2017 (.ref 1373),den P "side_of_road" 2025 (.ref 1380),den P "deeds_of" 2031 (.ref 1385),den P "row_of_wish" 2039 (.ref 1392),den P "wish_of" 2048 (.ref 1399),den P "value_of" 2056 (.ref 1406),den P "turns_of" 2066 (.ref 1413),den P "THINGS_OF_BEGIN" 2070 (.int 4 2069),den P "things_of" 2077 (.ref 1420),den P "things_at_most" 2083 (.ref 1425),den P "reckoned" 2089 (.ref 1430),den P "kept" 2097 (.ref 1435),den P "WHOLE_WORDS" 2103 (.ref 1436),den P "SIDED_WORDS" 2108 (.ref 1437),den P "signs_of_desk" 2115 (.ref 1442),den P "Talk" 2215 (.ref 1513),den P "Desk" 2270 (.ref 1555),den P "_law_cell_at" 2280 (.ref 1566),den P "_law_mixed" 2290 (.ref 1573),den P "_law_numbers" 2303 (.ref 1580),den P "_law_early" 2311 (.ref 1587),den P "_law_refused" 2323 (.ref 1594),den P "_law_terms_row" 2329 (.ref 1599),den P "_law_bound" 2342 (.ref 1606),den P "_law_asked" 2357 (.ref 1613),den P "law" 2370 (.ref 1620)]
abbrev md (P:Pm) (v:Value) (k n:Nat):Ob:=⟨.type "dict",none,.dict ⟨den P "__name__" 165 v::(mdl P).take k⟩ n,#[]⟩
def ltl:List Value:=ztl [(2,0,20),(4,0,33),(8,0,52),(12,0,71),(16,0,90),(20,0,109),(22,0,121),(26,0,140),(28,0,152),(33,0,171),(37,0,190),(42,0,209),(50,0,214),(52,0,221),(56,0,226),(58,0,231),(66,0,238),(68,0,243),(70,0,250),(76,0,257),(99,0,297),(102,0,304),(110,0,309),(112,0,316),(114,0,323),(144,0,344),(149,0,351),(158,0,356),(164,0,363),(169,0,370),(174,0,377),(182,0,382),(184,0,389),(189,0,396),(191,0,403),(200,0,410),(202,0,417),(204,0,422),(206,0,427),(209,0,434),(212,0,441),(249,0,497),(252,0,504),(285,0,560),(398,0,701),(420,0,764),(430,0,797),(443,0,837),(456,0,877),(466,0,910),(476,0,943),(483,0,969),(491,0,995),(533,0,1049),(535,0,1056),(540,0,1063),(634,0,1169),(636,0,1176),(642,0,1183),(646,0,1188),(648,0,1195),(650,0,1202),(759,0,1321),(765,0,1326),(768,0,1331),(770,0,1338),(772,0,1345),(781,0,1350),(783,0,1355),(785,0,1360),(787,0,1367),(790,0,1372),(795,0,1379),(800,0,1384),(809,0,1391),(812,0,1398),(818,0,1405),(822,0,1412),(830,0,1419),(836,0,1424),(838,0,1429),(848,0,1434),(857,0,1441),(860,0,1448),(933,0,1523),(958,0,1565),(962,0,1572),(969,0,1579),(981,0,1586),(986,0,1593),(996,0,1598),(998,0,1605),(1001,0,1612),(1013,0,1619)]
abbrev lt (k:Nat):Ob:=⟨.none,none,.fields ⟨ltl.take k⟩,#[]⟩
noncomputable abbrev zb (n:Nat):Ob:=⟨.type "builtin_function_or_method",none,.fields #[.builtin "object.__init_subclass__",.ref n],#[]⟩
noncomputable abbrev zs (n:Nat):Ob:=⟨.type "super",none,.fields #[.ref n,.ref n,.ref n],#[]⟩
noncomputable abbrev zf (a b c:Nat) (m:Value) (d:Nat):Ob:=⟨.type "frame",none,.plain,#[some (.ref a),some (.ref b),some (.ref c),none,some m,none,some (.ref d)]⟩
noncomputable abbrev zi (i j:Nat):Stmt:=inClass (top i) j
noncomputable abbrev zn (a b:Int) (c:Nat):Ob:=⟨.none,none,.fields #[.int a 0,.int b 0,.ref c],#[]⟩
noncomputable abbrev zm (P:Params) (a:Nat) (m:Value):DictEntry:=den P "__module__" a m
noncomputable abbrev zq (P:Params) (a:Nat) (m:String) (b:Nat):DictEntry:=den P "__qualname__" a (q m b)
noncomputable abbrev zl (P:Params) (a:Nat) (m:Int) (b:Nat):DictEntry:=den P "__firstlineno__" a (.int m b)
noncomputable abbrev za (P:Params) (a b:Nat):DictEntry:=den P "__static_attributes__" a (.ref b)
noncomputable abbrev zd (x:Array DictEntry) (n:Nat):Ob:=⟨.type "dict",none,.dict x n,#[]⟩
abbrev sO (x:String):Str:=Str.ofString x
def ai:=tp []
def bj:Ob:=⟨.none,none,.fields #[],#[]⟩
def o13:=ck "<module>" 182 1 11
def o14:=zf 13 3 3 (q "__main__" 164) 0
def o15(P:Pm):=md P q6 11 12
def o16:=lt 9
def o17:=tp [.type "ValueError"]
def vA:Ob:=⟨.type "builtin_function_or_method",none,.fields #[.builtin "type.__prepare__",.type "type"],#[]⟩
def o19(P:Pm):=zd #[zm P 196 q6,zq P 198 "RoadError" 197,zl P 200 2 199,za P 201 22] 4
def o22:=ck "RoadError" 191 2 18
def o23:=zf 20 3 17 q6 0
def o25(P:Pm):=zd #[zm P 196 q6,zl P 200 2 199,za P 201 22,den P "__weakref__" 203 (.ref 25),den P "__doc__" 204 .none] 3
def o26:=zx "RoadError" [.type "ValueError"] [.ref 24] 23 [.ref 44,.ref 63] (some (.ref 15)) q7 q8
def o27:Ob:=⟨.type "getset_descriptor",none,.fields #[q "__weakref__" 202,.ref 24,.builtin "ExceptionGroup.__weakref__",.none],#[]⟩
def o28:=zs 24
def o29:=zb 24
def BU:=tp [.ref 24]
def o32(P:Pm):=zd #[zm P 214 q6,zq P 216 "NoFrame" 215,zl P 218 4 217,den P "__init__" 226 (.ref 41),za P 228 42] 5
def o34:=zn 6 4 40
def o35:=ck "NoFrame" 209 4 31
def o36:=zf 33 3 30 q6 0
def o39:=tq ["self","frame"] 222
abbrev j41 {α}:=nt (α:=α) "__init__" "NoFrame.__init__" (zi 2 0)
def o41:=j41 f0
def o42:=j41 cf 219 6 2 3 35 224
def o43:=j41 f1 3 q6 40
def o44:=tq ["frame"] 227
def o45(P:Pm):=zd #[zm P 214 q6,zl P 218 4 217,den P "__init__" 226 (.ref 41),za P 228 42,den P "__doc__" 229 .none] 2
def o46:=zx "NoFrame" [.ref 24] [.ref 44,.ref 24] 43 [] (some (.ref 28)) (q "NoFrame" 207) (q "NoFrame" 215)
def o47:=zs 44
def o48:=zb 44
def o51(P:Pm):=zd #[zm P 239 q6,zq P 241 "Spoilt" 240,zl P 243 8 242,den P "__init__" 251 (.ref 60),za P 253 61] 5
def o53:=zn 10 4 59
def o54:=ck "Spoilt" 234 8 50
def o55:=zf 52 3 49 q6 0
def o58:=tq ["self","frame"] 247
abbrev j60 {α}:=nt (α:=α) "__init__" "Spoilt.__init__" (zi 3 0)
def o60:=j60 f0
def o61:=j60 cf 244 10 2 3 54 249
def o62:=j60 f1 3 q6 59
def o63:=tq ["frame"] 252
def o64(P:Pm):=zd #[zm P 239 q6,zl P 243 8 242,den P "__init__" 251 (.ref 60),za P 253 61,den P "__doc__" 254 .none] 2
def o65:=zx "Spoilt" [.ref 24] [.ref 63,.ref 24] 62 [] (some (.ref 47)) (q "Spoilt" 232) (q "Spoilt" 240)
def o66:=zs 63
def o67:=zb 63
def o68(P:Pm):=md P q6 13 14
def o69:=lt 15
def o70:=zx "RoadError" [.type "ValueError"] [.ref 24] 23 [.ref 44,.ref 63,.ref 82,.ref 101] (some (.ref 15)) q7 q8
def o73(P:Pm):=zd #[zm P 264 q6,zq P 266 "NoPiece" 265,zl P 268 12 267,den P "__init__" 276 (.ref 79),za P 278 80] 5
def o75:=zn 14 4 78
def o76:=ck "NoPiece" 259 12 69
def o77:=zf 71 3 68 q6 0
def o80:=tq ["self","what"] 272
abbrev j82 {α}:=nt (α:=α) "__init__" "NoPiece.__init__" (zi 4 0)
def o82:=j82 f0
def o83:=j82 cf 269 14 2 3 73 274
def o84:=j82 f1 3 q6 78
def o85:=tq ["what"] 277
def o86(P:Pm):=zd #[zm P 264 q6,zl P 268 12 267,den P "__init__" 276 (.ref 79),za P 278 80,den P "__doc__" 279 .none] 2
def o87:=zx "NoPiece" [.ref 24] [.ref 82,.ref 24] 81 [] (some (.ref 66)) (q "NoPiece" 257) (q "NoPiece" 265)
def o88:=zs 82
def o89:=zb 82
def o92(P:Pm):=zd #[zm P 289 q6,zq P 291 "BadRoad" 290,zl P 293 16 292,den P "__init__" 301 (.ref 98),za P 303 99] 5
def o94:=zn 18 4 97
def o95:=ck "BadRoad" 284 16 88
def o96:=zf 90 3 87 q6 0
def o99:=tq ["self","at"] 297
abbrev WL {α}:=nt (α:=α) "__init__" "BadRoad.__init__" (zi 5 0)
def alC:=WL f0
def afT:=WL cf 294 18 2 3 92 299
def afP:=WL f1 3 q6 97
def afJ:=tq ["at"] 302
def afH(P:Pm):=zd #[zm P 289 q6,zl P 293 16 292,den P "__init__" 301 (.ref 98),za P 303 99,den P "__doc__" 304 .none] 2
def afF:=zx "BadRoad" [.ref 24] [.ref 101,.ref 24] 100 [] (some (.ref 85)) (q "BadRoad" 282) (q "BadRoad" 290)
def alB:=zs 101
def alA:=zb 101
def alz(P:Pm):=md P q6 16 17
def aly:=lt 24
def alx:=zx "RoadError" [.type "ValueError"] [.ref 24] 23 [.ref 44,.ref 63,.ref 82,.ref 101,.ref 113,.ref 132,.ref 144] (some (.ref 15)) q7 q8
def alw(P:Pm):=zd #[zm P 314 q6,zq P 316 "BadTerms" 315,zl P 318 20 317,za P 319 111] 4
def alv:=ck "BadTerms" 309 20 107
def alu:=zf 109 3 106 q6 0
def afe(P:Pm):=zd #[zm P 314 q6,zl P 318 20 317,za P 319 111,den P "__doc__" 320 .none] 2
def ae_:=zx "BadTerms" [.ref 24] [.ref 113,.ref 24] 112 [] (some (.ref 104)) (q "BadTerms" 307) (q "BadTerms" 315)
def als:=zs 113
def alr:=zb 113
def alq(P:Pm):=zd #[zm P 330 q6,zq P 332 "NotWide" 331,zl P 334 22 333,den P "__init__" 342 (.ref 129),za P 344 130] 5
def alp:=zn 24 4 128
def alo:=ck "NotWide" 325 22 119
def aln:=zf 121 3 118 q6 0
def aeM:=tq ["self","least"] 338
abbrev WK {α}:=nt (α:=α) "__init__" "NotWide.__init__" (zi 7 0)
def alm:=WK f0
def aeG:=WK cf 335 24 2 3 123 340
def aeB:=WK f1 3 q6 128
def aey:=tq ["least"] 343
def aew(P:Pm):=zd #[zm P 330 q6,zl P 334 22 333,den P "__init__" 342 (.ref 129),za P 344 130,den P "__doc__" 345 .none] 2
def aet:=zx "NotWide" [.ref 24] [.ref 132,.ref 24] 131 [] (some (.ref 116)) (q "NotWide" 323) (q "NotWide" 331)
def alk:=zs 132
def alj:=zb 132
def ali(P:Pm):=zd #[zm P 355 q6,zq P 357 "BadText" 356,zl P 359 26 358,za P 360 142] 4
def alh:=ck "BadText" 350 26 138
def alg:=zf 140 3 137 q6 0
def ad6(P:Pm):=zd #[zm P 355 q6,zl P 359 26 358,za P 360 142,den P "__doc__" 361 .none] 2
def ad4:=zx "BadText" [.ref 24] [.ref 144,.ref 24] 143 [] (some (.ref 135)) (q "BadText" 348) (q "BadText" 356)
def alf:=zs 144
def ale:=zb 144
def ald(P:Pm):=md P q6 18 19
def alc:=lt 30
def alb:=zx "RoadError" [.type "ValueError"] [.ref 24] 23 [.ref 44,.ref 63,.ref 82,.ref 101,.ref 113,.ref 132,.ref 144,.ref 163,.ref 182] (some (.ref 15)) q7 q8
def ala(P:Pm):=zd #[zm P 371 q6,zq P 373 "NotNow" 372,zl P 375 28 374,den P "__init__" 384 (.ref 160),za P 387 161] 5
def ak_:=zn 30 4 159
def ak9:=ck "NotNow" 366 28 150
def ak8:=zf 152 3 149 q6 0
def adB:=tq ["self","state","wish"] 379
abbrev WJ {α}:=nt (α:=α) "__init__" "NotNow.__init__" (zi 9 0)
def ak7:=WJ f0
def adA:=WJ cf 376 30 3 3 154 382
def adz:=WJ f1 3 q6 159
def ady:=tq ["state","wish"] 385
def adx(P:Pm):=zd #[zm P 371 q6,zl P 375 28 374,den P "__init__" 384 (.ref 160),za P 387 161,den P "__doc__" 388 .none] 2
def adw:=zx "NotNow" [.ref 24] [.ref 163,.ref 24] 162 [] (some (.ref 147)) (q "NotNow" 364) (q "NotNow" 372)
def ak6:=zs 163
def ak5:=zb 163
def ak4(P:Pm):=zd #[zm P 398 q6,zq P 400 "BadWish" 399,zl P 402 33 401,den P "__init__" 410 (.ref 179),za P 412 180] 5
def ak3:=zn 35 4 178
def ak2:=ck "BadWish" 393 33 169
def ak1:=zf 171 3 168 q6 0
def adv:=tq ["self","at"] 406
abbrev WI {α}:=nt (α:=α) "__init__" "BadWish.__init__" (zi 10 0)
def ak0:=WI f0
def adu:=WI cf 403 35 2 3 173 408
def adt:=WI f1 3 q6 178
def ads:=tq ["at"] 411
def adq(P:Pm):=zd #[zm P 398 q6,zl P 402 33 401,den P "__init__" 410 (.ref 179),za P 412 180,den P "__doc__" 413 .none] 2
def adp:=zx "BadWish" [.ref 24] [.ref 182,.ref 24] 181 [] (some (.ref 166)) (q "BadWish" 391) (q "BadWish" 399)
def akZ:=zs 182
def akY:=zb 182
def akX(P:Pm):=md P q9 32 33
def akW:=lt 57
def ado:=zx "RoadError" [.type "ValueError"] [.ref 24] 23 [.ref 44,.ref 63,.ref 82,.ref 101,.ref 113,.ref 132,.ref 144,.ref 163,.ref 182,.ref 201] (some (.ref 15)) q7 q8
def akV(P:Pm):=zd #[zm P 423 q6,zq P 425 "NoRow" 424,zl P 427 37 426,den P "__init__" 435 (.ref 198),za P 437 199] 5
def akU:=zn 39 4 197
def akT:=ck "NoRow" 418 37 188
def akS:=zf 190 3 187 q6 0
def adn:=tq ["self","at"] 431
abbrev WH {α}:=nt (α:=α) "__init__" "NoRow.__init__" (zi 11 0)
def akR:=WH f0
def adm:=WH cf 428 39 2 3 192 433
def adl:=WH f1 3 q6 197
def adk:=tq ["at"] 436
def adj(P:Pm):=zd #[zm P 423 q6,zl P 427 37 426,den P "__init__" 435 (.ref 198),za P 437 199,den P "__doc__" 438 .none] 2
def adi:=zx "NoRow" [.ref 24] [.ref 201,.ref 24] 200 [] (some (.ref 185)) (q "NoRow" 416) (q "NoRow" 424)
def akQ:=zs 201
def akP:=zb 201
def adh:=tq ["value","low","high"] 446
abbrev WG {α}:=nt (α:=α) "is_from" "is_from" (top 13)
def akO:=WG f0
def adg:=WG cf 443 42 3 3 204 449
def adf:=WG f1 3 (q "slowroad.bounds" 441) 209
abbrev agf {α}:=nt (α:=α) "copied" "copied" (top 20)
def akN:=agf f0
def ade:=cd "copied" 464 "copied" 465 466 50 1 0 0 3 211 true 181 212 .none .none .none (.ref 213) 467 468
def adb:=agf f1 3 q9 214
def ada:=tq ["deeds","sending"] 473
abbrev WE {α}:=nt (α:=α) "deed_at" "deed_at" (top 21)
def akM:=WE f0
def ac_:=WE cf 470 52 2 3 216 475
def ac9:=WE f1 3 q9 221
abbrev age {α}:=nt (α:=α) "has_whole_copy" "has_whole_copy" (top 22)
def akL:=age f0
def ac8:=cd "has_whole_copy" 478 "has_whole_copy" 479 480 56 1 0 0 3 223 true 181 224 .none .none .none (.ref 225) 481 482
def ac7:=age f1 3 q9 226
abbrev agd {α}:=nt (α:=α) "fairness" "fairness" (top 23)
def akK:=agd f0
def ac6:=cd "fairness" 484 "fairness" 485 486 58 1 0 0 3 228 true 181 229 .none .none .none (.ref 230) 487 488
def ac5:=agd f1 3 q9 231
def ac4:=tq ["copy","lag"] 493
abbrev WD {α}:=nt (α:=α) "is_copy" "is_copy" (top 24)
def akJ:=WD f0
def ac3:=WD cf 490 66 2 3 233 495
def ac2:=WD f1 3 q9 238
abbrev agc {α}:=nt (α:=α) "is_deed" "is_deed" (top 25)
def akI:=agc f0
def ac1:=cd "is_deed" 498 "is_deed" 499 500 68 2 0 0 3 240 true 181 241 .none .none .none (.ref 242) 501 502
def ac0:=agc f1 3 q9 243
def acZ:=tq ["deeds","lag","at","deed"] 507
abbrev WC {α}:=nt (α:=α) "check_road" "check_road" (top 26)
def akH:=WC f0
def acY:=WC cf 504 70 2 3 245 511
def acX:=WC f1 3 q9 250
def akG(P:Pm):=md P UJ 42 43
def akF:=lt 72
def akE(P:Pm):=zd #[zm P 521 q9,zq P 523 "Road" 522,zl P 525 76 524,den P "__init__" 534 (.ref 265),den P "send" 546 (.ref 272),den P "come" 552 (.ref 277),den P "under_way" 559 (.ref 284),za P 563 285] 8
def akD:=zt [(78,4,264),(84,4,271),(91,4,276),(96,4,283)]
def akC:=ck "Road" 516 76 255
def akB:=zf 257 3 254 q9 0
def acW:=tq ["self","deeds","lag"] 529
abbrev WB {α}:=nt (α:=α) "__init__" "Road.__init__" (zi 27 0)
def akA:=WB f0
def acV:=WB cf 526 78 3 3 259 532
def acU:=WB f1 3 q9 264
def acT:=tq ["self","turn","frame","sending","order","copy"] 538
abbrev WA {α}:=nt (α:=α) "send" "Road.send" (zi 27 1)
def akz:=WA f0
def acS:=WA cf 535 84 3 3 266 544
def acR:=WA f1 3 q9 271
abbrev agb {α}:=nt (α:=α) "come" "Road.come" (zi 27 2)
def aky:=agb f0
def acQ:=cd "come" 547 "Road.come" 548 549 91 2 0 0 3 273 true 181 274 .none .none .none (.ref 275) 550 551
def acP:=agb f1 3 q9 276
def acO:=tq ["self"] 556
abbrev Wz {α}:=nt (α:=α) "under_way" "Road.under_way" (zi 27 3)
def akx:=Wz f0
def acN:=Wz cf 553 96 1 3 278 557
def acM:=Wz f1 3 q9 283
def acL:=tq ["coming","deeds","sendings"] 560
def acK(P:Pm):=zd #[zm P 521 q9,zl P 525 76 524,den P "__init__" 534 (.ref 265),den P "send" 546 (.ref 272),den P "come" 552 (.ref 277),den P "under_way" 559 (.ref 284),za P 563 285,den P "__dict__" 565 (.ref 288),den P "__weakref__" 567 (.ref 289),den P "__doc__" 568 .none] 4
def acJ:=zo "Road" [.type "object"] [.ref 287] 286 [] none (q "Road" 514) (q "Road" 522)
def acI:Ob:=⟨.type "getset_descriptor",none,.fields #[q "__dict__" 564,.ref 287,.builtin "function.__dict__",.builtin "function.__dict__#set"],#[]⟩
def acH:Ob:=⟨.type "getset_descriptor",none,.fields #[q "__weakref__" 566,.ref 287,.builtin "ExceptionGroup.__weakref__",.none],#[]⟩
def akw:=zs 287
def akv:=zb 287
def acG:=tq ["ring","one","other"] 576
abbrev Wy {α}:=nt (α:=α) "ahead" "ahead" (top 29)
def aku:=Wy f0
def acF:=Wy cf 573 99 3 3 292 579
def acE:=Wy f1 3 (q "slowroad.rings" 571) 297
def acD:=tq ["room","lag"] 587
abbrev Wx {α}:=nt (α:=α) "need" "need" (top 31)
def akt:=Wx f0
def acC:=Wx cf 584 102 2 3 299 589
def acB:=Wx f1 3 (q "slowroad.fooling" 582) 304
abbrev aga {α}:=nt (α:=α) "are_rooms" "are_rooms" (top 38)
def aks:=aga f0
def acA:=cd "are_rooms" 604 "are_rooms" 605 606 110 1 0 0 3 306 true 181 307 .none .none .none (.ref 308) 607 608
def acz:=aga f1 3 UJ 309
def acy:=tq ["first","longest"] 613
abbrev Wv {α}:=nt (α:=α) "are_waits" "are_waits" (top 39)
def akr:=Wv f0
def acx:=Wv cf 610 112 2 3 311 615
def acw:=Wv f1 3 UJ 316
def akq(P:Pm):=md P El 68 69
def akp:=lt 108
def ako(P:Pm):=zd #[zm P 625 UJ,zq P 627 "Terms" 626,zl P 629 114 628,den P "__init__" 635 (.ref 329),za P 641 330] 5
def akn:=zn 116 4 328
def akm:=ck "Terms" 620 114 321
def akl:=zf 323 3 320 UJ 0
abbrev af_ {α}:=nt (α:=α) "__init__" "Terms.__init__" (zi 40 0)
def akk:=af_ f0
def acv:=cd "__init__" 630 "Terms.__init__" 631 632 116 6 0 0 3 325 true 181 326 .none .none .none (.ref 327) 633 634
def acu:=af_ f1 3 UJ 328
def acs:=tq ["first","lag","longest","ring","rooms"] 636
def acr(P:Pm):=zd #[zm P 625 UJ,zl P 629 114 628,den P "__init__" 635 (.ref 329),za P 641 330,den P "__dict__" 643 (.ref 333),den P "__weakref__" 645 (.ref 334),den P "__doc__" 646 .none] 4
def acq:=zo "Terms" [.type "object"] [.ref 332] 331 [] none (q "Terms" 618) (q "Terms" 626)
def acp:Ob:=⟨.type "getset_descriptor",none,.fields #[q "__dict__" 642,.ref 332,.builtin "function.__dict__",.builtin "function.__dict__#set"],#[]⟩
def aco:Ob:=⟨.type "getset_descriptor",none,.fields #[q "__weakref__" 644,.ref 332,.builtin "ExceptionGroup.__weakref__",.none],#[]⟩
def akj:=zs 332
def aki:=zb 332
def acn:=tq ["bare","signs","begin","end","ask"] 651
def acm:=tq ["bare","ask"] 659
def ack:=tq ["thing","kind"] 687
abbrev Wu {α}:=nt (α:=α) "is_piece" "is_piece" (top 56)
def akh:=Wu f0
def acj:=Wu cf 684 144 1 3 339 689
def aci:=Wu f1 3 El 344
def ach:=tq ["held","last","step"] 695
abbrev Wt {α}:=nt (α:=α) "is_held" "is_held" (top 57)
def akg:=Wt f0
def acg:=Wt cf 692 149 1 3 346 698
def acf:=Wt f1 3 El 351
abbrev af9 {α}:=nt (α:=α) "are_signs" "are_signs" (top 58)
def akf:=af9 f0
def ace:=cd "are_signs" 701 "are_signs" 702 703 158 2 0 0 3 353 true 181 354 .none .none .none (.ref 355) 704 705
def acd:=af9 f1 3 El 356
def acb:=tq ["bits","left"] 710
abbrev Ws {α}:=nt (α:=α) "remainder" "remainder" (top 59)
def ake:=Ws f0
def aca:=Ws cf 707 164 1 3 358 712
def ab_:=Ws f1 3 El 363
def ab9:=tq ["piece","unchecked"] 718
abbrev Wr {α}:=nt (α:=α) "written" "written" (top 60)
def akd:=Wr f0
def ab8:=Wr cf 715 169 1 3 365 720
def ab7:=Wr f1 3 El 370
def ab6:=tq ["piece","body"] 726
abbrev Wq {α}:=nt (α:=α) "body_of" "body_of" (top 61)
def akc:=Wq f0
def ab5:=Wq cf 723 174 1 3 372 728
def ab4:=Wq f1 3 El 377
abbrev af8 {α}:=nt (α:=α) "bits_of_held" "bits_of_held" (top 62)
def akb:=af8 f0
def ab3:=cd "bits_of_held" 731 "bits_of_held" 732 733 182 1 0 0 3 379 true 181 380 .none .none .none (.ref 381) 734 735
def ab2:=af8 f1 3 El 382
def ab1:=tq ["signs","bits","sign"] 740
abbrev Wo {α}:=nt (α:=α) "bits_of_signs" "bits_of_signs" (top 63)
def aka:=Wo f0
def ab0:=Wo cf 737 184 1 3 384 743
def abZ:=Wo f1 3 El 389
def abY:=tq ["number"] 749
abbrev Wn {α}:=nt (α:=α) "is_frame" "is_frame" (top 64)
def aj_:=Wn f0
def abX:=Wn cf 746 189 1 3 391 750
def abW:=Wn f1 3 El 396
def abV:=tq ["frame","piece"] 756
abbrev Wm {α}:=nt (α:=α) "read" "read" (top 65)
def aj9:=Wm f0
def abU:=Wm cf 753 191 1 3 398 758
def abT:=Wm f1 3 El 403
def abS:=tq ["body"] 764
abbrev Wl {α}:=nt (α:=α) "likely_piece" "likely_piece" (top 66)
def aj8:=Wl f0
def abR:=Wl cf 761 200 1 3 405 765
def abQ:=Wl f1 3 El 410
def aj7(P:Pm):Ob:=⟨.type "dict",none,.dict #[den P "__name__" 165 Ja,den P "__doc__" 166 .none,den P "__package__" 167 .none,den P "__loader__" 168 (.builtin "__main__.__loader__#opaque"),den P "__spec__" 169 .none,den P "__annotations__" 170 (.ref 6),den P "__builtins__" 171 (.ref 4),den P "__file__" 173 q0,den P "__cached__" 174 .none,den P "RoadError" 206 (.ref 24),den P "NoFrame" 231 (.ref 44),den P "Spoilt" 256 (.ref 63),den P "NoPiece" 281 (.ref 82),den P "BadRoad" 306 (.ref 101),den P "BadTerms" 322 (.ref 113),den P "NotWide" 347 (.ref 132),den P "BadText" 363 (.ref 144),den P "NotNow" 390 (.ref 163),den P "BadWish" 415 (.ref 182),den P "NoRow" 440 (.ref 201),den P "is_from" 451 (.ref 210),den P "LAG_MOST_roads" 455 (.int 60 454),den P "DEEDS_MOST" 457 (.int 60 456),den P "COPIES_MOST" 459 (.int 3 458),den P "PLACE_MOST" 461 (.int 66 460),den P "RUN_MOST" 463 (.int 255 462),den P "copied" 469 (.ref 215),den P "deed_at" 477 (.ref 222),den P "has_whole_copy" 483 (.ref 227),den P "fairness" 489 (.ref 232),den P "is_copy" 497 (.ref 239),den P "is_deed" 503 (.ref 244),den P "check_road" 513 (.ref 251),den P "Road" 570 (.ref 287),den P "ahead" 581 (.ref 298),den P "need" 591 (.ref 305),den P "RING_MOST" 595 (.int 64 594),den P "ROOM_MOST_terms" 597 (.int 16 596),den P "LAG_MOST_terms" 599 (.int 32 598),den P "WAIT_LEAST_terms" 601 (.int 2 600),den P "WAIT_MOST" 603 (.int 64 602),den P "are_rooms" 609 (.ref 310),den P "are_waits" 617 (.ref 317),den P "Terms" 648 (.ref 332),den P "KINDS" 656 (.ref 337),den P "SIGNS" 658 q1,den P "UNNUMBERED" 661 (.ref 338),den P "NUMBER_MOST" 663 (.int 63 662),den P "ROOM_MOST_pieces" 665 (.int 16 664),den P "HELD_MOST" 667 (.int 15 666),den P "SIGNS_MOST" 669 (.int 4 668),den P "FRAME_BITS" 671 (.int 74 670),den P "CHECK_BITS" 673 (.int 8 672),den P "DIVISOR" 675 (.int 263 674),den P "DIVISOR_BITS" 677 (.int 9 676),den P "REMAINDER_MOST" 679 (.int 255 678),den P "NO_KIND" 681 q2,den P "NO_SIGN" 683 q3,den P "is_piece" 691 (.ref 345),den P "is_held" 700 (.ref 352),den P "are_signs" 706 (.ref 357),den P "remainder" 714 (.ref 364),den P "written" 722 (.ref 371),den P "body_of" 730 (.ref 378),den P "bits_of_held" 736 (.ref 383),den P "bits_of_signs" 745 (.ref 390),den P "is_frame" 752 (.ref 397),den P "read" 760 (.ref 404),den P "likely_piece" 767 (.ref 411),den P "kind_of" 774 (.ref 418),den P "held_of" 780 (.ref 423),den P "signs_of" 786 (.ref 428),den P "signs_of_pieces" 787 (.ref 428),den P "sign_of" 794 (.ref 435),den P "Meter" 865 (.ref 487),den P "WAIT_LEAST_ways" 869 (.int 2 868),den P "lowest" 878 (.ref 498)] 77,#[]⟩
def aj6:=lt 126
def abP:=tq ["code"] 771
abbrev Wk {α}:=nt (α:=α) "kind_of" "kind_of" (top 67)
def aj5:=Wk f0
def abO:=Wk cf 768 202 1 3 412 772
def abN:=Wk f1 3 El 417
abbrev af7 {α}:=nt (α:=α) "held_of" "held_of" (top 68)
def aj4:=af7 f0
def abM:=cd "held_of" 775 "held_of" 776 777 204 1 0 0 3 419 true 181 420 .none .none .none (.ref 421) 778 779
def abL:=af7 f1 3 El 422
abbrev af6 {α}:=nt (α:=α) "signs_of" "signs_of" (top 69)
def aj3:=af6 f0
def abK:=cd "signs_of" 781 "signs_of" 782 783 206 1 0 0 3 424 true 181 425 .none .none .none (.ref 426) 784 785
def abJ:=af6 f1 3 El 427
def abI:=tq ["code"] 791
abbrev Wj {α}:=nt (α:=α) "sign_of" "sign_of" (top 71)
def aj2:=Wj f0
def abH:=Wj cf 788 209 1 3 429 792
def abG:=Wj f1 3 El 434
def aj1(P:Pm):=zd #[zm P 804 MP,zq P 806 "Meter" 805,zl P 808 212 807,den P "__init__" 816 (.ref 449),den P "known" 825 (.ref 456),den P "know_one" 832 (.ref 463),den P "half" 839 (.ref 470),den P "ran_out" 846 (.ref 477),den P "hurried" 853 (.ref 484),za P 858 485] 10
def aj0:=zt [(214,4,448),(220,4,455),(224,4,462),(235,4,469),(238,4,476),(243,4,483)]
def ajZ:=ck "Meter" 799 212 439
def ajY:=zf 441 3 438 MP 0
def abF:=tq ["self","most"] 812
abbrev Wi {α}:=nt (α:=α) "__init__" "Meter.__init__" (zi 73 0)
def ajX:=Wi f0
def abE:=Wi cf 809 214 2 3 443 814
def abD:=Wi f1 3 MP 448
def abC:=tq ["self","many","piece"] 820
abbrev Wh {α}:=nt (α:=α) "known" "Meter.known" (zi 73 1)
def ajW:=Wh f0
def abB:=Wh cf 817 220 2 3 450 823
def abA:=Wh f1 3 MP 455
def abz:=tq ["self"] 829
abbrev Wf {α}:=nt (α:=α) "know_one" "Meter.know_one" (zi 73 2)
def ajV:=Wf f0
def aby:=Wf cf 826 224 1 3 457 830
def abx:=Wf f1 3 MP 462
def abw:=tq ["self"] 836
abbrev We {α}:=nt (α:=α) "half" "Meter.half" (zi 73 3)
def ajU:=We f0
def abv:=We cf 833 235 1 3 464 837
def abu:=We f1 3 MP 469
def abt:=tq ["self"] 843
abbrev Wd {α}:=nt (α:=α) "ran_out" "Meter.ran_out" (zi 73 4)
def ajT:=Wd f0
def abr:=Wd cf 840 238 1 3 471 844
def abq:=Wd f1 3 MP 476
def abp:=tq ["self"] 850
abbrev Wc {α}:=nt (α:=α) "hurried" "Meter.hurried" (zi 73 5)
def ajS:=Wc f0
def abo:=Wc cf 847 243 1 3 478 851
def abn:=Wc f1 3 MP 483
def abm:=tq ["counted","knee","most","window"] 854
def abl(P:Pm):=zd #[zm P 804 MP,zl P 808 212 807,den P "__init__" 816 (.ref 449),den P "known" 825 (.ref 456),den P "know_one" 832 (.ref 463),den P "half" 839 (.ref 470),den P "ran_out" 846 (.ref 477),den P "hurried" 853 (.ref 484),za P 858 485,den P "__dict__" 860 (.ref 488),den P "__weakref__" 862 (.ref 489),den P "__doc__" 863 .none] 4
def abk:=zo "Meter" [.type "object"] [.ref 487] 486 [] none (q "Meter" 797) (q "Meter" 805)
def abj:Ob:=⟨.type "getset_descriptor",none,.fields #[q "__dict__" 859,.ref 487,.builtin "function.__dict__",.builtin "function.__dict__#set"],#[]⟩
def abi:Ob:=⟨.type "getset_descriptor",none,.fields #[q "__weakref__" 861,.ref 487,.builtin "ExceptionGroup.__weakref__",.none],#[]⟩
def ajR:=zs 487
def ajQ:=zb 487
def abh:=tq ["top","bottom","shared"] 873
abbrev Wb {α}:=nt (α:=α) "lowest" "lowest" (top 76)
def ajP:=Wb f0
def abg:=Wb cf 870 249 2 3 492 876
def abf:=Wb f1 3 Ja 497
def ajO(P:Pm):Ob:=⟨.type "dict",none,.dict #[den P "__name__" 165 yU,den P "__doc__" 166 .none,den P "__package__" 167 .none,den P "__loader__" 168 (.builtin "__main__.__loader__#opaque"),den P "__spec__" 169 .none,den P "__annotations__" 170 (.ref 6),den P "__builtins__" 171 (.ref 4),den P "__file__" 173 q0,den P "__cached__" 174 .none,den P "RoadError" 206 (.ref 24),den P "NoFrame" 231 (.ref 44),den P "Spoilt" 256 (.ref 63),den P "NoPiece" 281 (.ref 82),den P "BadRoad" 306 (.ref 101),den P "BadTerms" 322 (.ref 113),den P "NotWide" 347 (.ref 132),den P "BadText" 363 (.ref 144),den P "NotNow" 390 (.ref 163),den P "BadWish" 415 (.ref 182),den P "NoRow" 440 (.ref 201),den P "is_from" 451 (.ref 210),den P "LAG_MOST_roads" 455 (.int 60 454),den P "DEEDS_MOST" 457 (.int 60 456),den P "COPIES_MOST" 459 (.int 3 458),den P "PLACE_MOST" 461 (.int 66 460),den P "RUN_MOST" 463 (.int 255 462),den P "copied" 469 (.ref 215),den P "deed_at" 477 (.ref 222),den P "has_whole_copy" 483 (.ref 227),den P "fairness" 489 (.ref 232),den P "is_copy" 497 (.ref 239),den P "is_deed" 503 (.ref 244),den P "check_road" 513 (.ref 251),den P "Road" 570 (.ref 287),den P "ahead" 581 (.ref 298),den P "need" 591 (.ref 305),den P "RING_MOST" 595 (.int 64 594),den P "ROOM_MOST_terms" 597 (.int 16 596),den P "LAG_MOST_terms" 599 (.int 32 598),den P "WAIT_LEAST_terms" 601 (.int 2 600),den P "WAIT_MOST" 603 (.int 64 602),den P "are_rooms" 609 (.ref 310),den P "are_waits" 617 (.ref 317),den P "Terms" 648 (.ref 332),den P "KINDS" 656 (.ref 337),den P "SIGNS" 658 q1,den P "UNNUMBERED" 661 (.ref 338),den P "NUMBER_MOST" 663 (.int 63 662),den P "ROOM_MOST_pieces" 665 (.int 16 664),den P "HELD_MOST" 667 (.int 15 666),den P "SIGNS_MOST" 669 (.int 4 668),den P "FRAME_BITS" 671 (.int 74 670),den P "CHECK_BITS" 673 (.int 8 672),den P "DIVISOR" 675 (.int 263 674),den P "DIVISOR_BITS" 677 (.int 9 676),den P "REMAINDER_MOST" 679 (.int 255 678),den P "NO_KIND" 681 q2,den P "NO_SIGN" 683 q3,den P "is_piece" 691 (.ref 345),den P "is_held" 700 (.ref 352),den P "are_signs" 706 (.ref 357),den P "remainder" 714 (.ref 364),den P "written" 722 (.ref 371),den P "body_of" 730 (.ref 378),den P "bits_of_held" 736 (.ref 383),den P "bits_of_signs" 745 (.ref 390),den P "is_frame" 752 (.ref 397),den P "read" 760 (.ref 404),den P "likely_piece" 767 (.ref 411),den P "kind_of" 774 (.ref 418),den P "held_of" 780 (.ref 423),den P "signs_of" 786 (.ref 428),den P "signs_of_pieces" 787 (.ref 428),den P "sign_of" 794 (.ref 435),den P "Meter" 865 (.ref 487),den P "WAIT_LEAST_ways" 869 (.int 2 868),den P "lowest" 878 (.ref 498),den P "Ways" 952 (.ref 550),den P "KNOWN_TO_HURRY" 956 (.int 2 955)] 79,#[]⟩
def ajN:=lt 129
def ajM(P:Pm):=zd #[zm P 886 Ja,zq P 888 "Ways" 887,zl P 890 252 889,den P "__init__" 899 (.ref 512),den P "measured" 907 (.ref 519),den P "next_spread" 917 (.ref 526),den P "next_smooth" 925 (.ref 533),den P "least_wait" 933 (.ref 540),den P "ran_out" 940 (.ref 547),za P 945 548] 10
def ajL:=zt [(254,4,511),(260,4,518),(269,4,525),(274,4,532),(277,4,539),(281,4,546)]
def ajK:=ck "Ways" 881 252 502
def ajJ:=zf 504 3 501 Ja 0
def abe:=tq ["self","first","longest"] 894
abbrev Wa {α}:=nt (α:=α) "__init__" "Ways.__init__" (zi 77 0)
def ajI:=Wa f0
def abd:=Wa cf 891 254 3 3 506 897
def abc:=Wa f1 3 Ja 511
def abb:=tq ["self","m"] 903
abbrev V_ {α}:=nt (α:=α) "measured" "Ways.measured" (zi 77 1)
def ajH:=V_ f0
def aba:=V_ cf 900 260 2 3 513 905
def aa_:=V_ f1 3 Ja 518
def aa9:=tq ["self","m","bottoms","away"] 911
abbrev V9 {α}:=nt (α:=α) "next_spread" "Ways.next_spread" (zi 77 2)
def ajG:=V9 f0
def aa8:=V9 cf 908 269 2 3 520 915
def aa7:=V9 f1 3 Ja 525
def aa6:=tq ["self","m"] 921
abbrev V8 {α}:=nt (α:=α) "next_smooth" "Ways.next_smooth" (zi 77 3)
def ajF:=V8 f0
def aa5:=V8 cf 918 274 2 3 527 923
def aa4:=V8 f1 3 Ja 532
def aa3:=tq ["self","top"] 929
abbrev V7 {α}:=nt (α:=α) "least_wait" "Ways.least_wait" (zi 77 4)
def ajE:=V7 f0
def aa2:=V7 cf 926 277 1 3 534 931
def aa1:=V7 f1 3 Ja 539
def aa0:=tq ["self"] 937
abbrev V6 {α}:=nt (α:=α) "ran_out" "Ways.ran_out" (zi 77 5)
def ajD:=V6 f0
def aaZ:=V6 cf 934 281 1 3 541 938
def aaY:=V6 f1 3 Ja 546
def aaX:=tq ["longest","smooth","spread","wait"] 941
def aaW(P:Pm):=zd #[zm P 886 Ja,zl P 890 252 889,den P "__init__" 899 (.ref 512),den P "measured" 907 (.ref 519),den P "next_spread" 917 (.ref 526),den P "next_smooth" 925 (.ref 533),den P "least_wait" 933 (.ref 540),den P "ran_out" 940 (.ref 547),za P 945 548,den P "__dict__" 947 (.ref 551),den P "__weakref__" 949 (.ref 552),den P "__doc__" 950 .none] 4
def aaV:=zo "Ways" [.type "object"] [.ref 550] 549 [] none (q "Ways" 879) (q "Ways" 887)
def aaU:Ob:=⟨.type "getset_descriptor",none,.fields #[q "__dict__" 946,.ref 550,.builtin "function.__dict__",.builtin "function.__dict__#set"],#[]⟩
def aaT:Ob:=⟨.type "getset_descriptor",none,.fields #[q "__weakref__" 948,.ref 550,.builtin "ExceptionGroup.__weakref__",.none],#[]⟩
def ajC:=zs 550
def ajB:=zb 550
def ajA(P:Pm):Ob:=⟨.type "dict",none,.dict #[den P "__name__" 165 yU,den P "__doc__" 166 .none,den P "__package__" 167 .none,den P "__loader__" 168 (.builtin "__main__.__loader__#opaque"),den P "__spec__" 169 .none,den P "__annotations__" 170 (.ref 6),den P "__builtins__" 171 (.ref 4),den P "__file__" 173 q0,den P "__cached__" 174 .none,den P "RoadError" 206 (.ref 24),den P "NoFrame" 231 (.ref 44),den P "Spoilt" 256 (.ref 63),den P "NoPiece" 281 (.ref 82),den P "BadRoad" 306 (.ref 101),den P "BadTerms" 322 (.ref 113),den P "NotWide" 347 (.ref 132),den P "BadText" 363 (.ref 144),den P "NotNow" 390 (.ref 163),den P "BadWish" 415 (.ref 182),den P "NoRow" 440 (.ref 201),den P "is_from" 451 (.ref 210),den P "LAG_MOST_roads" 455 (.int 60 454),den P "DEEDS_MOST" 457 (.int 60 456),den P "COPIES_MOST" 459 (.int 3 458),den P "PLACE_MOST" 461 (.int 66 460),den P "RUN_MOST" 463 (.int 255 462),den P "copied" 469 (.ref 215),den P "deed_at" 477 (.ref 222),den P "has_whole_copy" 483 (.ref 227),den P "fairness" 489 (.ref 232),den P "is_copy" 497 (.ref 239),den P "is_deed" 503 (.ref 244),den P "check_road" 513 (.ref 251),den P "Road" 570 (.ref 287),den P "ahead" 581 (.ref 298),den P "need" 591 (.ref 305),den P "RING_MOST" 595 (.int 64 594),den P "ROOM_MOST_terms" 597 (.int 16 596),den P "LAG_MOST_terms" 599 (.int 32 598),den P "WAIT_LEAST_terms" 601 (.int 2 600),den P "WAIT_MOST" 603 (.int 64 602),den P "are_rooms" 609 (.ref 310),den P "are_waits" 617 (.ref 317),den P "Terms" 648 (.ref 332),den P "KINDS" 656 (.ref 337),den P "SIGNS" 658 q1,den P "UNNUMBERED" 661 (.ref 338),den P "NUMBER_MOST" 663 (.int 63 662),den P "ROOM_MOST_pieces" 665 (.int 16 664),den P "HELD_MOST" 667 (.int 15 666),den P "SIGNS_MOST" 669 (.int 4 668),den P "FRAME_BITS" 671 (.int 74 670),den P "CHECK_BITS" 673 (.int 8 672),den P "DIVISOR" 675 (.int 263 674),den P "DIVISOR_BITS" 677 (.int 9 676),den P "REMAINDER_MOST" 679 (.int 255 678),den P "NO_KIND" 681 q2,den P "NO_SIGN" 683 q3,den P "is_piece" 691 (.ref 345),den P "is_held" 700 (.ref 352),den P "are_signs" 706 (.ref 357),den P "remainder" 714 (.ref 364),den P "written" 722 (.ref 371),den P "body_of" 730 (.ref 378),den P "bits_of_held" 736 (.ref 383),den P "bits_of_signs" 745 (.ref 390),den P "is_frame" 752 (.ref 397),den P "read" 760 (.ref 404),den P "likely_piece" 767 (.ref 411),den P "kind_of" 774 (.ref 418),den P "held_of" 780 (.ref 423),den P "signs_of" 786 (.ref 428),den P "signs_of_pieces" 787 (.ref 428),den P "sign_of" 794 (.ref 435),den P "Meter" 865 (.ref 487),den P "WAIT_LEAST_ways" 869 (.int 2 868),den P "lowest" 878 (.ref 498),den P "Ways" 952 (.ref 550),den P "KNOWN_TO_HURRY" 956 (.int 2 955),den P "Sender" 1140 (.ref 691)] 80,#[]⟩
def ajz:=lt 132
def ajy(P:Pm):=zd #[zm P 964 yU,zq P 966 "Sender" 965,zl P 968 285 967,den P "__init__" 979 (.ref 568),den P "put" 987 (.ref 575),den P "many" 994 (.ref 582),den P "thing" 1002 (.ref 589),den P "heard" 1016 (.ref 596),den P "grow_base" 1025 (.ref 603),den P "note_held" 1031 (.ref 608),den P "newly_known" 1037 (.ref 613),den P "known_above_base" 1043 (.ref 618),den P "under_way" 1050 (.ref 625),den P "thing_waits" 1057 (.ref 632),den P "clock_is_out" 1065 (.ref 639),den P "hurry_is_due" 1072 (.ref 646),den P "new_may_go" 1079 (.ref 653),den P "go" 1087 (.ref 660),den P "set_clock" 1095 (.ref 667),den P "go_again" 1103 (.ref 674),den P "go_new" 1112 (.ref 681),den P "ask_for_room" 1120 (.ref 688),za P 1133 689] 23
def ajx:=zt [(287,4,567),(301,4,574),(304,4,581),(307,4,588),(310,4,595),(325,4,602),(330,4,607),(333,4,612),(339,4,617),(342,4,624),(345,4,631),(348,4,638),(351,4,645),(354,4,652),(357,4,659),(371,4,666),(374,4,673),(380,4,680),(388,4,687)]
def ajw:=ck "Sender" 959 285 558
def ajv:=zf 560 3 557 yU 0
def aaS:=tq ["self","ring","first","longest","most"] 972
abbrev V5 {α}:=nt (α:=α) "__init__" "Sender.__init__" (zi 80 0)
def aju:=V5 f0
def aaR:=V5 cf 969 287 5 3 562 977
def aaQ:=V5 f1 3 yU 567
def aaP:=tq ["self","thing"] 983
abbrev V4 {α}:=nt (α:=α) "put" "Sender.put" (zi 80 1)
def ajt:=V4 f0
def aaO:=V4 cf 980 301 2 3 569 985
def aaN:=V4 f1 3 yU 574
def aaM:=tq ["self"] 991
abbrev V3 {α}:=nt (α:=α) "many" "Sender.many" (zi 80 2)
def ajs:=V3 f0
def aaL:=V3 cf 988 304 1 3 576 992
def aaK:=V3 f1 3 yU 581
def aaJ:=tq ["self","place"] 998
abbrev V2 {α}:=nt (α:=α) "thing" "Sender.thing" (zi 80 3)
def ajr:=V2 f0
def aaI:=V2 cf 995 307 2 3 583 1000
def aaH:=V2 f1 3 yU 588
def aaG:=tq ["self","number","room","held","turn","steps","fresh","place"] 1006
abbrev V1 {α}:=nt (α:=α) "heard" "Sender.heard" (zi 80 4)
def ajq:=V1 f0
def aaF:=V1 cf 1003 310 5 3 590 1014
def aaE:=V1 f1 3 yU 595
def aaD:=tq ["self","steps","low"] 1020
abbrev V0 {α}:=nt (α:=α) "grow_base" "Sender.grow_base" (zi 80 5)
def ajp:=V0 f0
def aaC:=V0 cf 1017 325 2 3 597 1023
def aaB:=V0 f1 3 yU 602
abbrev af5 {α}:=nt (α:=α) "note_held" "Sender.note_held" (zi 80 6)
def ajo:=af5 f0
def aaA:=cd "note_held" 1026 "Sender.note_held" 1027 1028 330 2 0 0 3 604 true 181 605 .none .none .none (.ref 606) 1029 1030
def aaz:=af5 f1 3 yU 607
abbrev af4 {α}:=nt (α:=α) "newly_known" "Sender.newly_known" (zi 80 7)
def ajn:=af4 f0
def aay:=cd "newly_known" 1032 "Sender.newly_known" 1033 1034 333 2 0 0 3 609 true 181 610 .none .none .none (.ref 611) 1035 1036
def aax:=af4 f1 3 yU 612
abbrev af3 {α}:=nt (α:=α) "known_above_base" "Sender.known_above_base" (zi 80 8)
def ajm:=af3 f0
def aaw:=cd "known_above_base" 1038 "Sender.known_above_base" 1039 1040 339 1 0 0 3 614 true 181 615 .none .none .none (.ref 616) 1041 1042
def aav:=af3 f1 3 yU 617
def aau:=tq ["self"] 1047
abbrev VZ {α}:=nt (α:=α) "under_way" "Sender.under_way" (zi 80 9)
def ajl:=VZ f0
def aat:=VZ cf 1044 342 1 3 619 1048
def aas:=VZ f1 3 yU 624
def aar:=tq ["self"] 1054
abbrev VY {α}:=nt (α:=α) "thing_waits" "Sender.thing_waits" (zi 80 10)
def ajk:=VY f0
def aaq:=VY cf 1051 345 1 3 626 1055
def aap:=VY f1 3 yU 631
def aao:=tq ["self","turn"] 1061
abbrev VX {α}:=nt (α:=α) "clock_is_out" "Sender.clock_is_out" (zi 80 11)
def ajj:=VX f0
def aan:=VX cf 1058 348 2 3 633 1063
def aam:=VX f1 3 yU 638
def aal:=tq ["self"] 1069
abbrev VW {α}:=nt (α:=α) "hurry_is_due" "Sender.hurry_is_due" (zi 80 12)
def aji:=VW f0
def aak:=VW cf 1066 351 1 3 640 1070
def aaj:=VW f1 3 yU 645
def aai:=tq ["self"] 1076
abbrev VV {α}:=nt (α:=α) "new_may_go" "Sender.new_may_go" (zi 80 13)
def ajh:=VV f0
def aah:=VV cf 1073 354 1 3 647 1077
def aag:=VV f1 3 yU 652
def aaf:=tq ["self","turn"] 1083
abbrev VU {α}:=nt (α:=α) "go" "Sender.go" (zi 80 14)
def ajg:=VU f0
def aae:=VU cf 1080 357 2 3 654 1085
def aad:=VU f1 3 yU 659
def aac:=tq ["self","turn"] 1091
abbrev VT {α}:=nt (α:=α) "set_clock" "Sender.set_clock" (zi 80 15)
def ajf:=VT f0
def aab:=VT cf 1088 371 2 3 661 1093
def aaa:=VT f1 3 yU 666
def Z_:=tq ["self","turn"] 1099
abbrev VS {α}:=nt (α:=α) "go_again" "Sender.go_again" (zi 80 16)
def aje:=VS f0
def Z9:=VS cf 1096 374 2 3 668 1101
def Z8:=VS f1 3 yU 673
def Z7:=tq ["self","turn","place"] 1107
abbrev VR {α}:=nt (α:=α) "go_new" "Sender.go_new" (zi 80 17)
def ajd:=VR f0
def Z6:=VR cf 1104 380 2 3 675 1110
def Z5:=VR f1 3 yU 680
def Z4:=tq ["self","turn"] 1116
abbrev VQ {α}:=nt (α:=α) "ask_for_room" "Sender.ask_for_room" (zi 80 18)
def ajc:=VQ f0
def Z3:=VQ cf 1113 388 2 3 682 1118
def Z2:=VQ f1 3 yU 687
def Z1:=tq ["base","base_hurried","clock","edge","first_turns","gone_again","known_places","meter","ring","things","top","ways"] 1121
def Z0(P:Pm):=zd #[zm P 964 yU,zl P 968 285 967,den P "__init__" 979 (.ref 568),den P "put" 987 (.ref 575),den P "many" 994 (.ref 582),den P "thing" 1002 (.ref 589),den P "heard" 1016 (.ref 596),den P "grow_base" 1025 (.ref 603),den P "note_held" 1031 (.ref 608),den P "newly_known" 1037 (.ref 613),den P "known_above_base" 1043 (.ref 618),den P "under_way" 1050 (.ref 625),den P "thing_waits" 1057 (.ref 632),den P "clock_is_out" 1065 (.ref 639),den P "hurry_is_due" 1072 (.ref 646),den P "new_may_go" 1079 (.ref 653),den P "go" 1087 (.ref 660),den P "set_clock" 1095 (.ref 667),den P "go_again" 1103 (.ref 674),den P "go_new" 1112 (.ref 681),den P "ask_for_room" 1120 (.ref 688),za P 1133 689,den P "__dict__" 1135 (.ref 692),den P "__weakref__" 1137 (.ref 693),den P "__doc__" 1138 .none] 4
def ZZ:=zo "Sender" [.type "object"] [.ref 691] 690 [] none (q "Sender" 957) (q "Sender" 965)
def ZY:Ob:=⟨.type "getset_descriptor",none,.fields #[q "__dict__" 1134,.ref 691,.builtin "function.__dict__",.builtin "function.__dict__#set"],#[]⟩
def ZX:Ob:=⟨.type "getset_descriptor",none,.fields #[q "__weakref__" 1136,.ref 691,.builtin "ExceptionGroup.__weakref__",.none],#[]⟩
def ajb:=zs 691
def aja:=zb 691
def ai_(P:Pm):Ob:=⟨.type "dict",none,.dict #[den P "__name__" 165 la,den P "__doc__" 166 .none,den P "__package__" 167 .none,den P "__loader__" 168 (.builtin "__main__.__loader__#opaque"),den P "__spec__" 169 .none,den P "__annotations__" 170 (.ref 6),den P "__builtins__" 171 (.ref 4),den P "__file__" 173 q0,den P "__cached__" 174 .none,den P "RoadError" 206 (.ref 24),den P "NoFrame" 231 (.ref 44),den P "Spoilt" 256 (.ref 63),den P "NoPiece" 281 (.ref 82),den P "BadRoad" 306 (.ref 101),den P "BadTerms" 322 (.ref 113),den P "NotWide" 347 (.ref 132),den P "BadText" 363 (.ref 144),den P "NotNow" 390 (.ref 163),den P "BadWish" 415 (.ref 182),den P "NoRow" 440 (.ref 201),den P "is_from" 451 (.ref 210),den P "LAG_MOST_roads" 455 (.int 60 454),den P "DEEDS_MOST" 457 (.int 60 456),den P "COPIES_MOST" 459 (.int 3 458),den P "PLACE_MOST" 461 (.int 66 460),den P "RUN_MOST" 463 (.int 255 462),den P "copied" 469 (.ref 215),den P "deed_at" 477 (.ref 222),den P "has_whole_copy" 483 (.ref 227),den P "fairness" 489 (.ref 232),den P "is_copy" 497 (.ref 239),den P "is_deed" 503 (.ref 244),den P "check_road" 513 (.ref 251),den P "Road" 570 (.ref 287),den P "ahead" 581 (.ref 298),den P "need" 591 (.ref 305),den P "RING_MOST" 595 (.int 64 594),den P "ROOM_MOST_terms" 597 (.int 16 596),den P "LAG_MOST_terms" 599 (.int 32 598),den P "WAIT_LEAST_terms" 601 (.int 2 600),den P "WAIT_MOST" 603 (.int 64 602),den P "are_rooms" 609 (.ref 310),den P "are_waits" 617 (.ref 317),den P "Terms" 648 (.ref 332),den P "KINDS" 656 (.ref 337),den P "SIGNS" 658 q1,den P "UNNUMBERED" 661 (.ref 338),den P "NUMBER_MOST" 663 (.int 63 662),den P "ROOM_MOST_pieces" 665 (.int 16 664),den P "HELD_MOST" 667 (.int 15 666),den P "SIGNS_MOST" 669 (.int 4 668),den P "FRAME_BITS" 671 (.int 74 670),den P "CHECK_BITS" 673 (.int 8 672),den P "DIVISOR" 675 (.int 263 674),den P "DIVISOR_BITS" 677 (.int 9 676),den P "REMAINDER_MOST" 679 (.int 255 678),den P "NO_KIND" 681 q2,den P "NO_SIGN" 683 q3,den P "is_piece" 691 (.ref 345),den P "is_held" 700 (.ref 352),den P "are_signs" 706 (.ref 357),den P "remainder" 714 (.ref 364),den P "written" 722 (.ref 371),den P "body_of" 730 (.ref 378),den P "bits_of_held" 736 (.ref 383),den P "bits_of_signs" 745 (.ref 390),den P "is_frame" 752 (.ref 397),den P "read" 760 (.ref 404),den P "likely_piece" 767 (.ref 411),den P "kind_of" 774 (.ref 418),den P "held_of" 780 (.ref 423),den P "signs_of" 786 (.ref 428),den P "signs_of_pieces" 787 (.ref 428),den P "sign_of" 794 (.ref 435),den P "Meter" 865 (.ref 487),den P "WAIT_LEAST_ways" 869 (.int 2 868),den P "lowest" 878 (.ref 498),den P "Ways" 952 (.ref 550),den P "KNOWN_TO_HURRY" 956 (.int 2 955),den P "Sender" 1140 (.ref 691),den P "State" 1211 (.ref 754)] 81,#[]⟩
def ai9:=lt 135
def ai8(P:Pm):=zd #[zm P 1150 la,zq P 1152 "State" 1151,zl P 1154 398 1153,den P "name" 1161 (.ref 709),den P "wish_begin" 1168 (.ref 716),den P "wish_end" 1175 (.ref 723),den P "may_put" 1182 (.ref 730),den P "begun" 1189 (.ref 737),den P "ended" 1196 (.ref 744),den P "answered" 1203 (.ref 751),za P 1204 752] 11
def ai7:=zt [(400,4,708),(403,4,715),(406,4,722),(409,4,729),(412,4,736),(415,4,743),(418,4,750)]
def ai6:=ck "State" 1145 398 699
def ai5:=zf 701 3 698 la 0
def ZW:=tq ["self"] 1158
abbrev VP {α}:=nt (α:=α) "name" "State.name" (zi 82 0)
def ai4:=VP f0
def ZV:=VP cf 1155 400 1 3 703 1159
def ZU:=VP f1 3 la 708
def ZT:=tq ["self"] 1165
abbrev VO {α}:=nt (α:=α) "wish_begin" "State.wish_begin" (zi 82 1)
def ai3:=VO f0
def ZS:=VO cf 1162 403 1 3 710 1166
def ZR:=VO f1 3 la 715
def ZQ:=tq ["self"] 1172
abbrev VN {α}:=nt (α:=α) "wish_end" "State.wish_end" (zi 82 2)
def ai2:=VN f0
def ZP:=VN cf 1169 406 1 3 717 1173
def ZO:=VN f1 3 la 722
def ZN:=tq ["self"] 1179
abbrev VM {α}:=nt (α:=α) "may_put" "State.may_put" (zi 82 3)
def ai1:=VM f0
def ZM:=VM cf 1176 409 1 3 724 1180
def ZL:=VM f1 3 la 729
def ZK:=tq ["self"] 1186
abbrev VL {α}:=nt (α:=α) "begun" "State.begun" (zi 82 4)
def ai0:=VL f0
def ZJ:=VL cf 1183 412 1 3 731 1187
def ZI:=VL f1 3 la 736
def ZH:=tq ["self"] 1193
abbrev VJ {α}:=nt (α:=α) "ended" "State.ended" (zi 82 5)
def aiZ:=VJ f0
def ZG:=VJ cf 1190 415 1 3 738 1194
def ZF:=VJ f1 3 la 743
def ZE:=tq ["self"] 1200
abbrev VI {α}:=nt (α:=α) "answered" "State.answered" (zi 82 6)
def aiY:=VI f0
def ZD:=VI cf 1197 418 1 3 745 1201
def ZC:=VI f1 3 la 750
def ZA(P:Pm):=zd #[zm P 1150 la,zl P 1154 398 1153,den P "name" 1161 (.ref 709),den P "wish_begin" 1168 (.ref 716),den P "wish_end" 1175 (.ref 723),den P "may_put" 1182 (.ref 730),den P "begun" 1189 (.ref 737),den P "ended" 1196 (.ref 744),den P "answered" 1203 (.ref 751),za P 1204 752,den P "__dict__" 1206 (.ref 755),den P "__weakref__" 1208 (.ref 756),den P "__doc__" 1209 .none] 4
def aiX:=zo "State" [.type "object"] [.ref 754] 753 [] none Yk Yj
def Zz:Ob:=⟨.type "getset_descriptor",none,.fields #[q "__dict__" 1205,.ref 754,.builtin "function.__dict__",.builtin "function.__dict__#set"],#[]⟩
def Zy:Ob:=⟨.type "getset_descriptor",none,.fields #[q "__weakref__" 1207,.ref 754,.builtin "ExceptionGroup.__weakref__",.none],#[]⟩
def aiW:=zs 754
def aiV:=zb 754
def aiU(P:Pm):Ob:=⟨.type "dict",none,.dict #[den P "__name__" 165 la,den P "__doc__" 166 .none,den P "__package__" 167 .none,den P "__loader__" 168 (.builtin "__main__.__loader__#opaque"),den P "__spec__" 169 .none,den P "__annotations__" 170 (.ref 6),den P "__builtins__" 171 (.ref 4),den P "__file__" 173 q0,den P "__cached__" 174 .none,den P "RoadError" 206 (.ref 24),den P "NoFrame" 231 (.ref 44),den P "Spoilt" 256 (.ref 63),den P "NoPiece" 281 (.ref 82),den P "BadRoad" 306 (.ref 101),den P "BadTerms" 322 (.ref 113),den P "NotWide" 347 (.ref 132),den P "BadText" 363 (.ref 144),den P "NotNow" 390 (.ref 163),den P "BadWish" 415 (.ref 182),den P "NoRow" 440 (.ref 201),den P "is_from" 451 (.ref 210),den P "LAG_MOST_roads" 455 (.int 60 454),den P "DEEDS_MOST" 457 (.int 60 456),den P "COPIES_MOST" 459 (.int 3 458),den P "PLACE_MOST" 461 (.int 66 460),den P "RUN_MOST" 463 (.int 255 462),den P "copied" 469 (.ref 215),den P "deed_at" 477 (.ref 222),den P "has_whole_copy" 483 (.ref 227),den P "fairness" 489 (.ref 232),den P "is_copy" 497 (.ref 239),den P "is_deed" 503 (.ref 244),den P "check_road" 513 (.ref 251),den P "Road" 570 (.ref 287),den P "ahead" 581 (.ref 298),den P "need" 591 (.ref 305),den P "RING_MOST" 595 (.int 64 594),den P "ROOM_MOST_terms" 597 (.int 16 596),den P "LAG_MOST_terms" 599 (.int 32 598),den P "WAIT_LEAST_terms" 601 (.int 2 600),den P "WAIT_MOST" 603 (.int 64 602),den P "are_rooms" 609 (.ref 310),den P "are_waits" 617 (.ref 317),den P "Terms" 648 (.ref 332),den P "KINDS" 656 (.ref 337),den P "SIGNS" 658 q1,den P "UNNUMBERED" 661 (.ref 338),den P "NUMBER_MOST" 663 (.int 63 662),den P "ROOM_MOST_pieces" 665 (.int 16 664),den P "HELD_MOST" 667 (.int 15 666),den P "SIGNS_MOST" 669 (.int 4 668),den P "FRAME_BITS" 671 (.int 74 670),den P "CHECK_BITS" 673 (.int 8 672),den P "DIVISOR" 675 (.int 263 674),den P "DIVISOR_BITS" 677 (.int 9 676),den P "REMAINDER_MOST" 679 (.int 255 678),den P "NO_KIND" 681 q2,den P "NO_SIGN" 683 q3,den P "is_piece" 691 (.ref 345),den P "is_held" 700 (.ref 352),den P "are_signs" 706 (.ref 357),den P "remainder" 714 (.ref 364),den P "written" 722 (.ref 371),den P "body_of" 730 (.ref 378),den P "bits_of_held" 736 (.ref 383),den P "bits_of_signs" 745 (.ref 390),den P "is_frame" 752 (.ref 397),den P "read" 760 (.ref 404),den P "likely_piece" 767 (.ref 411),den P "kind_of" 774 (.ref 418),den P "held_of" 780 (.ref 423),den P "signs_of" 786 (.ref 428),den P "signs_of_pieces" 787 (.ref 428),den P "sign_of" 794 (.ref 435),den P "Meter" 865 (.ref 487),den P "WAIT_LEAST_ways" 869 (.int 2 868),den P "lowest" 878 (.ref 498),den P "Ways" 952 (.ref 550),den P "KNOWN_TO_HURRY" 956 (.int 2 955),den P "Sender" 1140 (.ref 691),den P "State" 1211 (.ref 754),den P "Shut" 1248 (.ref 789),den P "Calling" 1292 (.ref 829)] 83,#[]⟩
def aiT:=lt 141
def aiS:=zo "State" [.type "object"] [.ref 754] 753 [.ref 789,.ref 829] none Yk Yj
def vz:=tp [.ref 754]
def aiR(P:Pm):=zd #[zm P 1219 la,zq P 1221 "Shut" 1220,zl P 1223 420 1222,den P "name" 1230 (.ref 772),den P "wish_begin" 1237 (.ref 779),den P "begun" 1244 (.ref 786),za P 1245 787] 7
def aiQ:=zt [(422,4,771),(425,4,778),(428,4,785)]
def aiP:=ck "Shut" 1214 420 762
def aiO:=zf 764 3 761 la 0
def Zx:=tq ["self"] 1227
abbrev VH {α}:=nt (α:=α) "name" "Shut.name" (zi 83 0)
def aiN:=VH f0
def Zw:=VH cf 1224 422 1 3 766 1228
def Zv:=VH f1 3 la 771
def Zu:=tq ["self"] 1234
abbrev VG {α}:=nt (α:=α) "wish_begin" "Shut.wish_begin" (zi 83 1)
def aiM:=VG f0
def Zt:=VG cf 1231 425 1 3 773 1235
def Zs:=VG f1 3 la 778
def Zr:=tq ["self"] 1241
abbrev VF {α}:=nt (α:=α) "begun" "Shut.begun" (zi 83 2)
def aiL:=VF f0
def Zq:=VF cf 1238 428 1 3 780 1242
def Zp:=VF f1 3 la 785
def Zo(P:Pm):=zd #[zm P 1219 la,zl P 1223 420 1222,den P "name" 1230 (.ref 772),den P "wish_begin" 1237 (.ref 779),den P "begun" 1244 (.ref 786),za P 1245 787,den P "__doc__" 1246 .none] 2
def Zn:=zo "Shut" [.ref 754] [.ref 789,.ref 754] 788 [] (some (.ref 759)) (q "Shut" 1212) (q "Shut" 1220)
def aiK:=zs 789
def aiJ:=zb 789
def aiI(P:Pm):=zd #[zm P 1256 la,zq P 1258 "Calling" 1257,zl P 1260 430 1259,den P "name" 1267 (.ref 805),den P "wish_end" 1274 (.ref 812),den P "may_put" 1281 (.ref 819),den P "begun" 1288 (.ref 826),za P 1289 827] 8
def aiH:=zt [(432,4,804),(435,4,811),(438,4,818),(441,4,825)]
def aiG:=ck "Calling" 1251 430 795
def aiF:=zf 797 3 794 la 0
def Zm:=tq ["self"] 1264
abbrev VE {α}:=nt (α:=α) "name" "Calling.name" (zi 84 0)
def aiE:=VE f0
def Zl:=VE cf 1261 432 1 3 799 1265
def Zk:=VE f1 3 la 804
def Zj:=tq ["self"] 1271
abbrev VD {α}:=nt (α:=α) "wish_end" "Calling.wish_end" (zi 84 1)
def aiD:=VD f0
def Zi:=VD cf 1268 435 1 3 806 1272
def Zh:=VD f1 3 la 811
def Zg:=tq ["self"] 1278
abbrev VC {α}:=nt (α:=α) "may_put" "Calling.may_put" (zi 84 2)
def aiC:=VC f0
def Zf:=VC cf 1275 438 1 3 813 1279
def Ze:=VC f1 3 la 818
def Zd:=tq ["self"] 1285
abbrev VB {α}:=nt (α:=α) "begun" "Calling.begun" (zi 84 3)
def aiB:=VB f0
def Zc:=VB cf 1282 441 1 3 820 1286
def Zb:=VB f1 3 la 825
def Za(P:Pm):=zd #[zm P 1256 la,zl P 1260 430 1259,den P "name" 1267 (.ref 805),den P "wish_end" 1274 (.ref 812),den P "may_put" 1281 (.ref 819),den P "begun" 1288 (.ref 826),za P 1289 827,den P "__doc__" 1290 .none] 2
def Y_:=zo "Calling" [.ref 754] [.ref 829,.ref 754] 828 [] (some (.ref 792)) (q "Calling" 1249) (q "Calling" 1257)
def aiA:=zs 829
def aiz:=zb 829
def aiy(P:Pm):Ob:=⟨.type "dict",none,.dict #[den P "__name__" 165 la,den P "__doc__" 166 .none,den P "__package__" 167 .none,den P "__loader__" 168 (.builtin "__main__.__loader__#opaque"),den P "__spec__" 169 .none,den P "__annotations__" 170 (.ref 6),den P "__builtins__" 171 (.ref 4),den P "__file__" 173 q0,den P "__cached__" 174 .none,den P "RoadError" 206 (.ref 24),den P "NoFrame" 231 (.ref 44),den P "Spoilt" 256 (.ref 63),den P "NoPiece" 281 (.ref 82),den P "BadRoad" 306 (.ref 101),den P "BadTerms" 322 (.ref 113),den P "NotWide" 347 (.ref 132),den P "BadText" 363 (.ref 144),den P "NotNow" 390 (.ref 163),den P "BadWish" 415 (.ref 182),den P "NoRow" 440 (.ref 201),den P "is_from" 451 (.ref 210),den P "LAG_MOST_roads" 455 (.int 60 454),den P "DEEDS_MOST" 457 (.int 60 456),den P "COPIES_MOST" 459 (.int 3 458),den P "PLACE_MOST" 461 (.int 66 460),den P "RUN_MOST" 463 (.int 255 462),den P "copied" 469 (.ref 215),den P "deed_at" 477 (.ref 222),den P "has_whole_copy" 483 (.ref 227),den P "fairness" 489 (.ref 232),den P "is_copy" 497 (.ref 239),den P "is_deed" 503 (.ref 244),den P "check_road" 513 (.ref 251),den P "Road" 570 (.ref 287),den P "ahead" 581 (.ref 298),den P "need" 591 (.ref 305),den P "RING_MOST" 595 (.int 64 594),den P "ROOM_MOST_terms" 597 (.int 16 596),den P "LAG_MOST_terms" 599 (.int 32 598),den P "WAIT_LEAST_terms" 601 (.int 2 600),den P "WAIT_MOST" 603 (.int 64 602),den P "are_rooms" 609 (.ref 310),den P "are_waits" 617 (.ref 317),den P "Terms" 648 (.ref 332),den P "KINDS" 656 (.ref 337),den P "SIGNS" 658 q1,den P "UNNUMBERED" 661 (.ref 338),den P "NUMBER_MOST" 663 (.int 63 662),den P "ROOM_MOST_pieces" 665 (.int 16 664),den P "HELD_MOST" 667 (.int 15 666),den P "SIGNS_MOST" 669 (.int 4 668),den P "FRAME_BITS" 671 (.int 74 670),den P "CHECK_BITS" 673 (.int 8 672),den P "DIVISOR" 675 (.int 263 674),den P "DIVISOR_BITS" 677 (.int 9 676),den P "REMAINDER_MOST" 679 (.int 255 678),den P "NO_KIND" 681 q2,den P "NO_SIGN" 683 q3,den P "is_piece" 691 (.ref 345),den P "is_held" 700 (.ref 352),den P "are_signs" 706 (.ref 357),den P "remainder" 714 (.ref 364),den P "written" 722 (.ref 371),den P "body_of" 730 (.ref 378),den P "bits_of_held" 736 (.ref 383),den P "bits_of_signs" 745 (.ref 390),den P "is_frame" 752 (.ref 397),den P "read" 760 (.ref 404),den P "likely_piece" 767 (.ref 411),den P "kind_of" 774 (.ref 418),den P "held_of" 780 (.ref 423),den P "signs_of" 786 (.ref 428),den P "signs_of_pieces" 787 (.ref 428),den P "sign_of" 794 (.ref 435),den P "Meter" 865 (.ref 487),den P "WAIT_LEAST_ways" 869 (.int 2 868),den P "lowest" 878 (.ref 498),den P "Ways" 952 (.ref 550),den P "KNOWN_TO_HURRY" 956 (.int 2 955),den P "Sender" 1140 (.ref 691),den P "State" 1211 (.ref 754),den P "Shut" 1248 (.ref 789),den P "Calling" 1292 (.ref 829),den P "Open" 1336 (.ref 869),den P "Left" 1373 (.ref 902)] 85,#[]⟩
def aix:=lt 147
def aiw:=zo "State" [.type "object"] [.ref 754] 753 [.ref 789,.ref 829,.ref 869,.ref 902] none Yk Yj
def aiv(P:Pm):=zd #[zm P 1300 la,zq P 1302 "Open" 1301,zl P 1304 443 1303,den P "name" 1311 (.ref 845),den P "wish_end" 1318 (.ref 852),den P "may_put" 1325 (.ref 859),den P "ended" 1332 (.ref 866),za P 1333 867] 8
def aiu:=zt [(445,4,844),(448,4,851),(451,4,858),(454,4,865)]
def ait:=ck "Open" 1295 443 835
def ais:=zf 837 3 834 la 0
def Y9:=tq ["self"] 1308
abbrev VA {α}:=nt (α:=α) "name" "Open.name" (zi 85 0)
def air:=VA f0
def Y8:=VA cf 1305 445 1 3 839 1309
def Y7:=VA f1 3 la 844
def Y6:=tq ["self"] 1315
abbrev Vz {α}:=nt (α:=α) "wish_end" "Open.wish_end" (zi 85 1)
def aiq:=Vz f0
def Y5:=Vz cf 1312 448 1 3 846 1316
def Y4:=Vz f1 3 la 851
def Y3:=tq ["self"] 1322
abbrev Vy {α}:=nt (α:=α) "may_put" "Open.may_put" (zi 85 2)
def aip:=Vy f0
def Y2:=Vy cf 1319 451 1 3 853 1323
def Y1:=Vy f1 3 la 858
def Y0:=tq ["self"] 1329
abbrev Vx {α}:=nt (α:=α) "ended" "Open.ended" (zi 85 3)
def aio:=Vx f0
def YZ:=Vx cf 1326 454 1 3 860 1330
def YY:=Vx f1 3 la 865
def YX(P:Pm):=zd #[zm P 1300 la,zl P 1304 443 1303,den P "name" 1311 (.ref 845),den P "wish_end" 1318 (.ref 852),den P "may_put" 1325 (.ref 859),den P "ended" 1332 (.ref 866),za P 1333 867,den P "__doc__" 1334 .none] 2
def YW:=zo "Open" [.ref 754] [.ref 869,.ref 754] 868 [] (some (.ref 832)) (q "Open" 1293) (q "Open" 1301)
def ain:=zs 869
def aim:=zb 869
def ail(P:Pm):=zd #[zm P 1344 la,zq P 1346 "Left" 1345,zl P 1348 456 1347,den P "name" 1355 (.ref 885),den P "wish_end" 1362 (.ref 892),den P "may_put" 1369 (.ref 899),za P 1370 900] 7
def aik:=zt [(458,4,884),(461,4,891),(464,4,898)]
def aij:=ck "Left" 1339 456 875
def aii:=zf 877 3 874 la 0
def YV:=tq ["self"] 1352
abbrev Vw {α}:=nt (α:=α) "name" "Left.name" (zi 86 0)
def aih:=Vw f0
def YU:=Vw cf 1349 458 1 3 879 1353
def YT:=Vw f1 3 la 884
def YS:=tq ["self"] 1359
abbrev Vv {α}:=nt (α:=α) "wish_end" "Left.wish_end" (zi 86 1)
def aif:=Vv f0
def YR:=Vv cf 1356 461 1 3 886 1360
def YQ:=Vv f1 3 la 891
def YO:=tq ["self"] 1366
abbrev Vu {α}:=nt (α:=α) "may_put" "Left.may_put" (zi 86 2)
def aie:=Vu f0
def YN:=Vu cf 1363 464 1 3 893 1367
def YM:=Vu f1 3 la 898
def YL(P:Pm):=zd #[zm P 1344 la,zl P 1348 456 1347,den P "name" 1355 (.ref 885),den P "wish_end" 1362 (.ref 892),den P "may_put" 1369 (.ref 899),za P 1370 900,den P "__doc__" 1371 .none] 2
def YK:=zo "Left" [.ref 754] [.ref 902,.ref 754] 901 [] (some (.ref 872)) (q "Left" 1337) (q "Left" 1345)
def aid:=zs 902
def aic:=zb 902
def aib(P:Pm):Ob:=⟨.type "dict",none,.dict #[den P "__name__" 165 la,den P "__doc__" 166 .none,den P "__package__" 167 .none,den P "__loader__" 168 (.builtin "__main__.__loader__#opaque"),den P "__spec__" 169 .none,den P "__annotations__" 170 (.ref 6),den P "__builtins__" 171 (.ref 4),den P "__file__" 173 q0,den P "__cached__" 174 .none,den P "RoadError" 206 (.ref 24),den P "NoFrame" 231 (.ref 44),den P "Spoilt" 256 (.ref 63),den P "NoPiece" 281 (.ref 82),den P "BadRoad" 306 (.ref 101),den P "BadTerms" 322 (.ref 113),den P "NotWide" 347 (.ref 132),den P "BadText" 363 (.ref 144),den P "NotNow" 390 (.ref 163),den P "BadWish" 415 (.ref 182),den P "NoRow" 440 (.ref 201),den P "is_from" 451 (.ref 210),den P "LAG_MOST_roads" 455 (.int 60 454),den P "DEEDS_MOST" 457 (.int 60 456),den P "COPIES_MOST" 459 (.int 3 458),den P "PLACE_MOST" 461 (.int 66 460),den P "RUN_MOST" 463 (.int 255 462),den P "copied" 469 (.ref 215),den P "deed_at" 477 (.ref 222),den P "has_whole_copy" 483 (.ref 227),den P "fairness" 489 (.ref 232),den P "is_copy" 497 (.ref 239),den P "is_deed" 503 (.ref 244),den P "check_road" 513 (.ref 251),den P "Road" 570 (.ref 287),den P "ahead" 581 (.ref 298),den P "need" 591 (.ref 305),den P "RING_MOST" 595 (.int 64 594),den P "ROOM_MOST_terms" 597 (.int 16 596),den P "LAG_MOST_terms" 599 (.int 32 598),den P "WAIT_LEAST_terms" 601 (.int 2 600),den P "WAIT_MOST" 603 (.int 64 602),den P "are_rooms" 609 (.ref 310),den P "are_waits" 617 (.ref 317),den P "Terms" 648 (.ref 332),den P "KINDS" 656 (.ref 337),den P "SIGNS" 658 q1,den P "UNNUMBERED" 661 (.ref 338),den P "NUMBER_MOST" 663 (.int 63 662),den P "ROOM_MOST_pieces" 665 (.int 16 664),den P "HELD_MOST" 667 (.int 15 666),den P "SIGNS_MOST" 669 (.int 4 668),den P "FRAME_BITS" 671 (.int 74 670),den P "CHECK_BITS" 673 (.int 8 672),den P "DIVISOR" 675 (.int 263 674),den P "DIVISOR_BITS" 677 (.int 9 676),den P "REMAINDER_MOST" 679 (.int 255 678),den P "NO_KIND" 681 q2,den P "NO_SIGN" 683 q3,den P "is_piece" 691 (.ref 345),den P "is_held" 700 (.ref 352),den P "are_signs" 706 (.ref 357),den P "remainder" 714 (.ref 364),den P "written" 722 (.ref 371),den P "body_of" 730 (.ref 378),den P "bits_of_held" 736 (.ref 383),den P "bits_of_signs" 745 (.ref 390),den P "is_frame" 752 (.ref 397),den P "read" 760 (.ref 404),den P "likely_piece" 767 (.ref 411),den P "kind_of" 774 (.ref 418),den P "held_of" 780 (.ref 423),den P "signs_of" 786 (.ref 428),den P "signs_of_pieces" 787 (.ref 428),den P "sign_of" 794 (.ref 435),den P "Meter" 865 (.ref 487),den P "WAIT_LEAST_ways" 869 (.int 2 868),den P "lowest" 878 (.ref 498),den P "Ways" 952 (.ref 550),den P "KNOWN_TO_HURRY" 956 (.int 2 955),den P "Sender" 1140 (.ref 691),den P "State" 1211 (.ref 754),den P "Shut" 1248 (.ref 789),den P "Calling" 1292 (.ref 829),den P "Open" 1336 (.ref 869),den P "Left" 1373 (.ref 902),den P "Leaving" 1410 (.ref 935),den P "Waiting" 1440 (.ref 961)] 87,#[]⟩
def aia:=lt 153
def ah_:=zo "State" [.type "object"] [.ref 754] 753 [.ref 789,.ref 829,.ref 869,.ref 902,.ref 935,.ref 961] none Yk Yj
def ah9(P:Pm):=zd #[zm P 1381 la,zq P 1383 "Leaving" 1382,zl P 1385 466 1384,den P "name" 1392 (.ref 918),den P "ended" 1399 (.ref 925),den P "answered" 1406 (.ref 932),za P 1407 933] 7
def ah8:=zt [(468,4,917),(471,4,924),(474,4,931)]
def ah7:=ck "Leaving" 1376 466 908
def ah6:=zf 910 3 907 la 0
def YJ:=tq ["self"] 1389
abbrev Vt {α}:=nt (α:=α) "name" "Leaving.name" (zi 87 0)
def ah5:=Vt f0
def YI:=Vt cf 1386 468 1 3 912 1390
def YH:=Vt f1 3 la 917
def YG:=tq ["self"] 1396
abbrev Vs {α}:=nt (α:=α) "ended" "Leaving.ended" (zi 87 1)
def ah4:=Vs f0
def YF:=Vs cf 1393 471 1 3 919 1397
def YE:=Vs f1 3 la 924
def YD:=tq ["self"] 1403
abbrev Vr {α}:=nt (α:=α) "answered" "Leaving.answered" (zi 87 2)
def ah3:=Vr f0
def YC:=Vr cf 1400 474 1 3 926 1404
def YB:=Vr f1 3 la 931
def YA(P:Pm):=zd #[zm P 1381 la,zl P 1385 466 1384,den P "name" 1392 (.ref 918),den P "ended" 1399 (.ref 925),den P "answered" 1406 (.ref 932),za P 1407 933,den P "__doc__" 1408 .none] 2
def Yz:=zo "Leaving" [.ref 754] [.ref 935,.ref 754] 934 [] (some (.ref 905)) (q "Leaving" 1374) (q "Leaving" 1382)
def ah2:=zs 935
def ah1:=zb 935
def ah0(P:Pm):=zd #[zm P 1418 la,zq P 1420 "Waiting" 1419,zl P 1422 476 1421,den P "name" 1429 (.ref 951),den P "ended" 1436 (.ref 958),za P 1437 959] 6
def ahZ:=zt [(478,4,950),(481,4,957)]
def ahY:=ck "Waiting" 1413 476 941
def ahX:=zf 943 3 940 la 0
def Yy:=tq ["self"] 1426
abbrev Vq {α}:=nt (α:=α) "name" "Waiting.name" (zi 88 0)
def ahW:=Vq f0
def Yx:=Vq cf 1423 478 1 3 945 1427
def Yw:=Vq f1 3 la 950
def Yv:=tq ["self"] 1433
abbrev Vp {α}:=nt (α:=α) "ended" "Waiting.ended" (zi 88 1)
def ahV:=Vp f0
def Yu:=Vp cf 1430 481 1 3 952 1434
def Yt:=Vp f1 3 la 957
def Ys(P:Pm):=zd #[zm P 1418 la,zl P 1422 476 1421,den P "name" 1429 (.ref 951),den P "ended" 1436 (.ref 958),za P 1437 959,den P "__doc__" 1438 .none] 2
def Yr:=zo "Waiting" [.ref 754] [.ref 961,.ref 754] 960 [] (some (.ref 938)) (q "Waiting" 1411) (q "Waiting" 1419)
def ahU:=zs 961
def ahT:=zb 961
def ahS(P:Pm):Ob:=⟨.type "dict",none,.dict #[den P "__name__" 165 BP,den P "__doc__" 166 .none,den P "__package__" 167 .none,den P "__loader__" 168 (.builtin "__main__.__loader__#opaque"),den P "__spec__" 169 .none,den P "__annotations__" 170 (.ref 6),den P "__builtins__" 171 (.ref 4),den P "__file__" 173 q0,den P "__cached__" 174 .none,den P "RoadError" 206 (.ref 24),den P "NoFrame" 231 (.ref 44),den P "Spoilt" 256 (.ref 63),den P "NoPiece" 281 (.ref 82),den P "BadRoad" 306 (.ref 101),den P "BadTerms" 322 (.ref 113),den P "NotWide" 347 (.ref 132),den P "BadText" 363 (.ref 144),den P "NotNow" 390 (.ref 163),den P "BadWish" 415 (.ref 182),den P "NoRow" 440 (.ref 201),den P "is_from" 451 (.ref 210),den P "LAG_MOST_roads" 455 (.int 60 454),den P "DEEDS_MOST" 457 (.int 60 456),den P "COPIES_MOST" 459 (.int 3 458),den P "PLACE_MOST" 461 (.int 66 460),den P "RUN_MOST" 463 (.int 255 462),den P "copied" 469 (.ref 215),den P "deed_at" 477 (.ref 222),den P "has_whole_copy" 483 (.ref 227),den P "fairness" 489 (.ref 232),den P "is_copy" 497 (.ref 239),den P "is_deed" 503 (.ref 244),den P "check_road" 513 (.ref 251),den P "Road" 570 (.ref 287),den P "ahead" 581 (.ref 298),den P "need" 591 (.ref 305),den P "RING_MOST" 595 (.int 64 594),den P "ROOM_MOST_terms" 597 (.int 16 596),den P "LAG_MOST_terms" 599 (.int 32 598),den P "WAIT_LEAST_terms" 601 (.int 2 600),den P "WAIT_MOST" 603 (.int 64 602),den P "are_rooms" 609 (.ref 310),den P "are_waits" 617 (.ref 317),den P "Terms" 648 (.ref 332),den P "KINDS" 656 (.ref 337),den P "SIGNS" 658 q1,den P "UNNUMBERED" 661 (.ref 338),den P "NUMBER_MOST" 663 (.int 63 662),den P "ROOM_MOST_pieces" 665 (.int 16 664),den P "HELD_MOST" 667 (.int 15 666),den P "SIGNS_MOST" 669 (.int 4 668),den P "FRAME_BITS" 671 (.int 74 670),den P "CHECK_BITS" 673 (.int 8 672),den P "DIVISOR" 675 (.int 263 674),den P "DIVISOR_BITS" 677 (.int 9 676),den P "REMAINDER_MOST" 679 (.int 255 678),den P "NO_KIND" 681 q2,den P "NO_SIGN" 683 q3,den P "is_piece" 691 (.ref 345),den P "is_held" 700 (.ref 352),den P "are_signs" 706 (.ref 357),den P "remainder" 714 (.ref 364),den P "written" 722 (.ref 371),den P "body_of" 730 (.ref 378),den P "bits_of_held" 736 (.ref 383),den P "bits_of_signs" 745 (.ref 390),den P "is_frame" 752 (.ref 397),den P "read" 760 (.ref 404),den P "likely_piece" 767 (.ref 411),den P "kind_of" 774 (.ref 418),den P "held_of" 780 (.ref 423),den P "signs_of" 786 (.ref 428),den P "signs_of_pieces" 787 (.ref 428),den P "sign_of" 794 (.ref 435),den P "Meter" 865 (.ref 487),den P "WAIT_LEAST_ways" 869 (.int 2 868),den P "lowest" 878 (.ref 498),den P "Ways" 952 (.ref 550),den P "KNOWN_TO_HURRY" 956 (.int 2 955),den P "Sender" 1140 (.ref 691),den P "State" 1211 (.ref 754),den P "Shut" 1248 (.ref 789),den P "Calling" 1292 (.ref 829),den P "Open" 1336 (.ref 869),den P "Left" 1373 (.ref 902),den P "Leaving" 1410 (.ref 935),den P "Waiting" 1440 (.ref 961),den P "Closing" 1470 (.ref 987),den P "Taker" 1548 (.ref 1039),den P "TEXT_MOST" 1552 (.int 60 1551),den P "BEGIN" 1555 (.ref 1044)] 91,#[]⟩
def afZ:=lt 159
def Tr:=zo "State" [.type "object"] [.ref 754] 753 [.ref 789,.ref 829,.ref 869,.ref 902,.ref 935,.ref 961,.ref 987] none Yk Yj
def afY(P:Pm):=zd #[zm P 1448 la,zq P 1450 "Closing" 1449,zl P 1452 483 1451,den P "name" 1459 (.ref 977),den P "answered" 1466 (.ref 984),za P 1467 985] 6
def afX:=zt [(485,4,976),(488,4,983)]
def afW:=ck "Closing" 1443 483 967
def afV:=zf 969 3 966 la 0
def Tq:=tq ["self"] 1456
abbrev KP {α}:=nt (α:=α) "name" "Closing.name" (zi 89 0)
def afU:=KP f0
def Tp:=KP cf 1453 485 1 3 971 1457
def To:=KP f1 3 la 976
def Tn:=tq ["self"] 1463
abbrev KO {α}:=nt (α:=α) "answered" "Closing.answered" (zi 89 1)
def afS:=KO f0
def Tj:=KO cf 1460 488 1 3 978 1464
def Ti:=KO f1 3 la 983
def Th(P:Pm):=zd #[zm P 1448 la,zl P 1452 483 1451,den P "name" 1459 (.ref 977),den P "answered" 1466 (.ref 984),za P 1467 985,den P "__doc__" 1468 .none] 2
def Tg:=zo "Closing" [.ref 754] [.ref 987,.ref 754] 986 [] (some (.ref 964)) (q "Closing" 1441) (q "Closing" 1449)
def afR:=zs 987
def afQ:=zb 987
def afO(P:Pm):=zd #[zm P 1480 MO,zq P 1482 "Taker" 1481,zl P 1484 491 1483,den P "__init__" 1493 (.ref 1003),den P "room_left" 1500 (.ref 1010),den P "take" 1511 (.ref 1017),den P "stand_in_order" 1519 (.ref 1024),den P "answer" 1525 (.ref 1029),den P "read" 1535 (.ref 1036),za P 1541 1037] 10
def afN:=zt [(493,4,1002),(500,4,1009),(503,4,1016),(512,4,1023),(519,4,1028),(523,4,1035)]
def afM:=ck "Taker" 1475 491 993
def afL:=zf 995 3 992 MO 0
def Tf:=tq ["self","ring","room"] 1488
abbrev KN {α}:=nt (α:=α) "__init__" "Taker.__init__" (zi 91 0)
def afK:=KN f0
def Te:=KN cf 1485 493 3 3 997 1491
def Td:=KN f1 3 MO 1002
def Tc:=tq ["self"] 1497
abbrev KL {α}:=nt (α:=α) "room_left" "Taker.room_left" (zi 91 1)
def afI:=KL f0
def Tb:=KL cf 1494 500 1 3 1004 1498
def Ta:=KL f1 3 MO 1009
def S_:=tq ["self","number","thing","steps","place"] 1504
abbrev KJ {α}:=nt (α:=α) "take" "Taker.take" (zi 91 2)
def afG:=KJ f0
def S0:=KJ cf 1501 503 3 3 1011 1509
def SX:=KJ f1 3 MO 1016
def SW:=tq ["self","things"] 1515
abbrev KI {α}:=nt (α:=α) "stand_in_order" "Taker.stand_in_order" (zi 91 3)
def afE:=KI f0
def SV:=KI cf 1512 512 1 3 1018 1517
def SU:=KI f1 3 MO 1023
abbrev T4 {α}:=nt (α:=α) "answer" "Taker.answer" (zi 91 4)
def afD:=T4 f0
def SS:=cd "answer" 1520 "Taker.answer" 1521 1522 519 1 0 0 3 1025 true 181 1026 .none .none .none (.ref 1027) 1523 1524
def SR:=T4 f1 3 MO 1028
def SQ:=tq ["self","most","things","place"] 1529
abbrev KH {α}:=nt (α:=α) "read" "Taker.read" (zi 91 5)
def afC:=KH f0
def SO:=KH cf 1526 523 2 3 1030 1533
def SN:=KH f1 3 MO 1035
def SM:=tq ["got","kept","out","ring","room"] 1536
def SK(P:Pm):=zd #[zm P 1480 MO,zl P 1484 491 1483,den P "__init__" 1493 (.ref 1003),den P "room_left" 1500 (.ref 1010),den P "take" 1511 (.ref 1017),den P "stand_in_order" 1519 (.ref 1024),den P "answer" 1525 (.ref 1029),den P "read" 1535 (.ref 1036),za P 1541 1037,den P "__dict__" 1543 (.ref 1040),den P "__weakref__" 1545 (.ref 1041),den P "__doc__" 1546 .none] 4
def SJ:=zo "Taker" [.type "object"] [.ref 1039] 1038 [] none (q "Taker" 1473) (q "Taker" 1481)
def SI:Ob:=⟨.type "getset_descriptor",none,.fields #[q "__dict__" 1542,.ref 1039,.builtin "function.__dict__",.builtin "function.__dict__#set"],#[]⟩
def SH:Ob:=⟨.type "getset_descriptor",none,.fields #[q "__weakref__" 1544,.ref 1039,.builtin "ExceptionGroup.__weakref__",.none],#[]⟩
def afB:=zs 1039
def afA:=zb 1039
def SG:=tq ["begin",""] 1553
def afz(P:Pm):Ob:=⟨.type "dict",none,.dict #[den P "__name__" 165 BP,den P "__doc__" 166 .none,den P "__package__" 167 .none,den P "__loader__" 168 (.builtin "__main__.__loader__#opaque"),den P "__spec__" 169 .none,den P "__annotations__" 170 (.ref 6),den P "__builtins__" 171 (.ref 4),den P "__file__" 173 q0,den P "__cached__" 174 .none,den P "RoadError" 206 (.ref 24),den P "NoFrame" 231 (.ref 44),den P "Spoilt" 256 (.ref 63),den P "NoPiece" 281 (.ref 82),den P "BadRoad" 306 (.ref 101),den P "BadTerms" 322 (.ref 113),den P "NotWide" 347 (.ref 132),den P "BadText" 363 (.ref 144),den P "NotNow" 390 (.ref 163),den P "BadWish" 415 (.ref 182),den P "NoRow" 440 (.ref 201),den P "is_from" 451 (.ref 210),den P "LAG_MOST_roads" 455 (.int 60 454),den P "DEEDS_MOST" 457 (.int 60 456),den P "COPIES_MOST" 459 (.int 3 458),den P "PLACE_MOST" 461 (.int 66 460),den P "RUN_MOST" 463 (.int 255 462),den P "copied" 469 (.ref 215),den P "deed_at" 477 (.ref 222),den P "has_whole_copy" 483 (.ref 227),den P "fairness" 489 (.ref 232),den P "is_copy" 497 (.ref 239),den P "is_deed" 503 (.ref 244),den P "check_road" 513 (.ref 251),den P "Road" 570 (.ref 287),den P "ahead" 581 (.ref 298),den P "need" 591 (.ref 305),den P "RING_MOST" 595 (.int 64 594),den P "ROOM_MOST_terms" 597 (.int 16 596),den P "LAG_MOST_terms" 599 (.int 32 598),den P "WAIT_LEAST_terms" 601 (.int 2 600),den P "WAIT_MOST" 603 (.int 64 602),den P "are_rooms" 609 (.ref 310),den P "are_waits" 617 (.ref 317),den P "Terms" 648 (.ref 332),den P "KINDS" 656 (.ref 337),den P "SIGNS" 658 q1,den P "UNNUMBERED" 661 (.ref 338),den P "NUMBER_MOST" 663 (.int 63 662),den P "ROOM_MOST_pieces" 665 (.int 16 664),den P "HELD_MOST" 667 (.int 15 666),den P "SIGNS_MOST" 669 (.int 4 668),den P "FRAME_BITS" 671 (.int 74 670),den P "CHECK_BITS" 673 (.int 8 672),den P "DIVISOR" 675 (.int 263 674),den P "DIVISOR_BITS" 677 (.int 9 676),den P "REMAINDER_MOST" 679 (.int 255 678),den P "NO_KIND" 681 q2,den P "NO_SIGN" 683 q3,den P "is_piece" 691 (.ref 345),den P "is_held" 700 (.ref 352),den P "are_signs" 706 (.ref 357),den P "remainder" 714 (.ref 364),den P "written" 722 (.ref 371),den P "body_of" 730 (.ref 378),den P "bits_of_held" 736 (.ref 383),den P "bits_of_signs" 745 (.ref 390),den P "is_frame" 752 (.ref 397),den P "read" 760 (.ref 404),den P "likely_piece" 767 (.ref 411),den P "kind_of" 774 (.ref 418),den P "held_of" 780 (.ref 423),den P "signs_of" 786 (.ref 428),den P "signs_of_pieces" 787 (.ref 428),den P "sign_of" 794 (.ref 435),den P "Meter" 865 (.ref 487),den P "WAIT_LEAST_ways" 869 (.int 2 868),den P "lowest" 878 (.ref 498),den P "Ways" 952 (.ref 550),den P "KNOWN_TO_HURRY" 956 (.int 2 955),den P "Sender" 1140 (.ref 691),den P "State" 1211 (.ref 754),den P "Shut" 1248 (.ref 789),den P "Calling" 1292 (.ref 829),den P "Open" 1336 (.ref 869),den P "Left" 1373 (.ref 902),den P "Leaving" 1410 (.ref 935),den P "Waiting" 1440 (.ref 961),den P "Closing" 1470 (.ref 987),den P "Taker" 1548 (.ref 1039),den P "TEXT_MOST" 1552 (.int 60 1551),den P "BEGIN" 1555 (.ref 1044),den P "END" 1558 (.ref 1045),den P "is_text" 1564 (.ref 1050),den P "read_or_none" 1571 (.ref 1057),den P "Hand" 1716 (.ref 1158)] 95,#[]⟩
def afy:=lt 168
def SF:=tq ["end",""] 1556
abbrev T3 {α}:=nt (α:=α) "is_text" "is_text" (top 96)
def afx:=T3 f0
def SE:=cd "is_text" 1559 "is_text" 1560 1561 533 1 0 0 3 1046 true 181 1047 .none .none .none (.ref 1048) 1562 1563
def SD:=T3 f1 3 BP 1049
def Sz:=tq ["frame"] 1568
abbrev KG {α}:=nt (α:=α) "read_or_none" "read_or_none" (top 97)
def afw:=KG f0
def Sy:=KG cf 1565 535 1 3 1051 1569
def Sx:=KG f1 3 BP 1056
def afv(P:Pm):=zd #[zm P 1579 BP,zq P 1581 "Hand" 1580,zl P 1583 540 1582,den P "__init__" 1592 (.ref 1071),den P "name" 1599 (.ref 1078),den P "begin" 1606 (.ref 1085),den P "end" 1613 (.ref 1092),den P "put" 1622 (.ref 1099),den P "read" 1632 (.ref 1106),den P "come" 1642 (.ref 1113),den P "hear" 1653 (.ref 1120),den P "take_in" 1664 (.ref 1127),den P "stand_to" 1672 (.ref 1134),den P "send" 1683 (.ref 1141),den P "piece_of" 1694 (.ref 1148),den P "quiet" 1701 (.ref 1155),za P 1709 1156] 17
def afu:=zt [(542,4,1070),(551,4,1077),(554,4,1084),(558,4,1091),(563,4,1098),(571,4,1105),(578,4,1112),(590,4,1119),(597,4,1126),(603,4,1133),(611,4,1140),(620,4,1147),(627,4,1154)]
def aft:=ck "Hand" 1574 540 1061
def afs:=zf 1063 3 1060 BP 0
def Sw:=tq ["self","side","terms"] 1587
abbrev KD {α}:=nt (α:=α) "__init__" "Hand.__init__" (zi 98 0)
def afr:=KD f0
def Sv:=KD cf 1584 542 3 3 1065 1590
def Su:=KD f1 3 BP 1070
def Ss:=tq ["self"] 1596
abbrev KC {α}:=nt (α:=α) "name" "Hand.name" (zi 98 1)
def afq:=KC f0
def Sr:=KC cf 1593 551 1 3 1072 1597
def Sq:=KC f1 3 BP 1077
def So:=tq ["self"] 1603
abbrev KA {α}:=nt (α:=α) "begin" "Hand.begin" (zi 98 2)
def afp:=KA f0
def Sn:=KA cf 1600 554 1 3 1079 1604
def Sm:=KA f1 3 BP 1084
def Sl:=tq ["self"] 1610
abbrev Kz {α}:=nt (α:=α) "end" "Hand.end" (zi 98 3)
def afo:=Kz f0
def Sk:=Kz cf 1607 558 1 3 1086 1611
def Sj:=Kz f1 3 BP 1091
def Si:=tq ["self","text","at"] 1617
abbrev Ky {α}:=nt (α:=α) "put" "Hand.put" (zi 98 4)
def afn:=Ky f0
def Sh:=Ky cf 1614 563 2 3 1093 1620
def Sg:=Ky f1 3 BP 1098
def Sf:=tq ["self","many","had_room","things"] 1626
abbrev Kx {α}:=nt (α:=α) "read" "Hand.read" (zi 98 5)
def afm:=Kx f0
def Se:=Kx cf 1623 571 2 3 1100 1630
def Sb:=Kx f1 3 BP 1105
def Sa:=tq ["self","frame","turn","piece"] 1636
abbrev Kw {α}:=nt (α:=α) "come" "Hand.come" (zi 98 6)
def afl:=Kw f0
def R_:=Kw cf 1633 578 3 3 1107 1640
def R9:=Kw f1 3 BP 1112
def R8:=tq ["self","piece","turn","low","place"] 1646
abbrev Kv {α}:=nt (α:=α) "hear" "Hand.hear" (zi 98 7)
def afk:=Kv f0
def R7:=Kv cf 1643 590 3 3 1114 1651
def R6:=Kv f1 3 BP 1119
def R5:=tq ["self","number","thing","taken","in_order"] 1657
abbrev Ku {α}:=nt (α:=α) "take_in" "Hand.take_in" (zi 98 8)
def afj:=Ku f0
def R4:=Ku cf 1654 597 3 3 1121 1662
def R3:=Ku f1 3 BP 1126
def R0:=tq ["self","kind"] 1668
abbrev Kt {α}:=nt (α:=α) "stand_to" "Hand.stand_to" (zi 98 9)
def afi:=Kt f0
def RZ:=Kt cf 1665 603 2 3 1128 1670
def RY:=Kt f1 3 BP 1133
def RX:=tq ["self","turn","what","word","place"] 1676
abbrev Ks {α}:=nt (α:=α) "send" "Hand.send" (zi 98 10)
def afh:=Ks f0
def RW:=Ks cf 1673 611 2 3 1135 1681
def RV:=Ks f1 3 BP 1140
def RU:=tq ["self","word","place","answer","thing"] 1687
abbrev Kr {α}:=nt (α:=α) "piece_of" "Hand.piece_of" (zi 98 11)
def afg:=Kr f0
def RT:=Kr cf 1684 620 3 3 1142 1692
def RS:=Kr f1 3 BP 1147
def RR:=tq ["self"] 1698
abbrev Kq {α}:=nt (α:=α) "quiet" "Hand.quiet" (zi 98 12)
def aff:=Kq f0
def RQ:=Kq cf 1695 627 1 3 1149 1699
def RP:=Kq f1 3 BP 1154
def RO:=tq ["answer_due","end_places","ring","sender","side","state","taker"] 1702
def RN(P:Pm):=zd #[zm P 1579 BP,zl P 1583 540 1582,den P "__init__" 1592 (.ref 1071),den P "name" 1599 (.ref 1078),den P "begin" 1606 (.ref 1085),den P "end" 1613 (.ref 1092),den P "put" 1622 (.ref 1099),den P "read" 1632 (.ref 1106),den P "come" 1642 (.ref 1113),den P "hear" 1653 (.ref 1120),den P "take_in" 1664 (.ref 1127),den P "stand_to" 1672 (.ref 1134),den P "send" 1683 (.ref 1141),den P "piece_of" 1694 (.ref 1148),den P "quiet" 1701 (.ref 1155),za P 1709 1156,den P "__dict__" 1711 (.ref 1159),den P "__weakref__" 1713 (.ref 1160),den P "__doc__" 1714 .none] 4
def RM:=zo "Hand" [.type "object"] [.ref 1158] 1157 [] none (q "Hand" 1572) (q "Hand" 1580)
def RL:Ob:=⟨.type "getset_descriptor",none,.fields #[q "__dict__" 1710,.ref 1158,.builtin "function.__dict__",.builtin "function.__dict__#set"],#[]⟩
def RK:Ob:=⟨.type "getset_descriptor",none,.fields #[q "__weakref__" 1712,.ref 1158,.builtin "ExceptionGroup.__weakref__",.none],#[]⟩
def afd:=zs 1158
def afc:=zb 1158
def afb(P:Pm):Ob:=⟨.type "dict",none,.dict #[den P "__name__" 165 xR,den P "__doc__" 166 .none,den P "__package__" 167 .none,den P "__loader__" 168 (.builtin "__main__.__loader__#opaque"),den P "__spec__" 169 .none,den P "__annotations__" 170 (.ref 6),den P "__builtins__" 171 (.ref 4),den P "__file__" 173 q0,den P "__cached__" 174 .none,den P "RoadError" 206 (.ref 24),den P "NoFrame" 231 (.ref 44),den P "Spoilt" 256 (.ref 63),den P "NoPiece" 281 (.ref 82),den P "BadRoad" 306 (.ref 101),den P "BadTerms" 322 (.ref 113),den P "NotWide" 347 (.ref 132),den P "BadText" 363 (.ref 144),den P "NotNow" 390 (.ref 163),den P "BadWish" 415 (.ref 182),den P "NoRow" 440 (.ref 201),den P "is_from" 451 (.ref 210),den P "LAG_MOST_roads" 455 (.int 60 454),den P "DEEDS_MOST" 457 (.int 60 456),den P "COPIES_MOST" 459 (.int 3 458),den P "PLACE_MOST" 461 (.int 66 460),den P "RUN_MOST" 463 (.int 255 462),den P "copied" 469 (.ref 215),den P "deed_at" 477 (.ref 222),den P "has_whole_copy" 483 (.ref 227),den P "fairness" 489 (.ref 232),den P "is_copy" 497 (.ref 239),den P "is_deed" 503 (.ref 244),den P "check_road" 513 (.ref 251),den P "Road" 570 (.ref 287),den P "ahead" 581 (.ref 298),den P "need" 591 (.ref 305),den P "RING_MOST" 595 (.int 64 594),den P "ROOM_MOST_terms" 597 (.int 16 596),den P "LAG_MOST_terms" 599 (.int 32 598),den P "WAIT_LEAST_terms" 601 (.int 2 600),den P "WAIT_MOST" 603 (.int 64 602),den P "are_rooms" 609 (.ref 310),den P "are_waits" 617 (.ref 317),den P "Terms" 648 (.ref 332),den P "KINDS" 656 (.ref 337),den P "SIGNS" 658 q1,den P "UNNUMBERED" 661 (.ref 338),den P "NUMBER_MOST" 663 (.int 63 662),den P "ROOM_MOST_pieces" 665 (.int 16 664),den P "HELD_MOST" 667 (.int 15 666),den P "SIGNS_MOST" 669 (.int 4 668),den P "FRAME_BITS" 671 (.int 74 670),den P "CHECK_BITS" 673 (.int 8 672),den P "DIVISOR" 675 (.int 263 674),den P "DIVISOR_BITS" 677 (.int 9 676),den P "REMAINDER_MOST" 679 (.int 255 678),den P "NO_KIND" 681 q2,den P "NO_SIGN" 683 q3,den P "is_piece" 691 (.ref 345),den P "is_held" 700 (.ref 352),den P "are_signs" 706 (.ref 357),den P "remainder" 714 (.ref 364),den P "written" 722 (.ref 371),den P "body_of" 730 (.ref 378),den P "bits_of_held" 736 (.ref 383),den P "bits_of_signs" 745 (.ref 390),den P "is_frame" 752 (.ref 397),den P "read" 760 (.ref 404),den P "likely_piece" 767 (.ref 411),den P "kind_of" 774 (.ref 418),den P "held_of" 780 (.ref 423),den P "signs_of" 786 (.ref 428),den P "signs_of_pieces" 787 (.ref 428),den P "sign_of" 794 (.ref 435),den P "Meter" 865 (.ref 487),den P "WAIT_LEAST_ways" 869 (.int 2 868),den P "lowest" 878 (.ref 498),den P "Ways" 952 (.ref 550),den P "KNOWN_TO_HURRY" 956 (.int 2 955),den P "Sender" 1140 (.ref 691),den P "State" 1211 (.ref 754),den P "Shut" 1248 (.ref 789),den P "Calling" 1292 (.ref 829),den P "Open" 1336 (.ref 869),den P "Left" 1373 (.ref 902),den P "Leaving" 1410 (.ref 935),den P "Waiting" 1440 (.ref 961),den P "Closing" 1470 (.ref 987),den P "Taker" 1548 (.ref 1039),den P "TEXT_MOST" 1552 (.int 60 1551),den P "BEGIN" 1555 (.ref 1044),den P "END" 1558 (.ref 1045),den P "is_text" 1564 (.ref 1050),den P "read_or_none" 1571 (.ref 1057),den P "Hand" 1716 (.ref 1158),den P "SIDES" 1721 (.ref 1163),den P "WISHES_MOST" 1723 (.int 60 1722),den P "WISH_TURN_MOST" 1725 (.int 400 1724),den P "READ_MOST" 1727 (.int 60 1726),den P "is_wish" 1734 (.ref 1170),den P "is_value" 1742 (.ref 1177),den P "check_wishes" 1751 (.ref 1184),den P "last_turn_of" 1757 (.ref 1189),den P "own_row" 1764 (.ref 1196)] 104,#[]⟩
def afa:=lt 183
def RJ:=tp [.int 0 1719,.int 1 1720]
def RI:=tq ["wish"] 1731
abbrev Ko {α}:=nt (α:=α) "is_wish" "is_wish" (top 104)
def ae9:=Ko f0
def RH:=Ko cf 1728 634 1 3 1164 1732
def RG:=Ko f1 3 xR 1169
def RF:=tq ["word","value"] 1738
abbrev Km {α}:=nt (α:=α) "is_value" "is_value" (top 105)
def ae8:=Km f0
def RE:=Km cf 1735 636 2 3 1171 1740
def RD:=Km f1 3 xR 1176
def RC:=tq ["wishes","at","wish"] 1746
abbrev Kl {α}:=nt (α:=α) "check_wishes" "check_wishes" (top 106)
def ae7:=Kl f0
def RB:=Kl cf 1743 642 1 3 1178 1749
def Ry:=Kl f1 3 xR 1183
abbrev T2 {α}:=nt (α:=α) "last_turn_of" "last_turn_of" (top 107)
def ae6:=T2 f0
def Rx:=cd "last_turn_of" 1752 "last_turn_of" 1753 1754 646 1 0 0 3 1185 true 181 1186 .none .none .none (.ref 1187) 1755 1756
def Rw:=T2 f1 3 xR 1188
def Rv:=tq ["row"] 1761
abbrev Kk {α}:=nt (α:=α) "own_row" "own_row" (top 108)
def ae5:=Kk f0
def Ru:=Kk cf 1758 648 1 3 1190 1762
def Rt:=Kk f1 3 xR 1195
def ae4(P:Pm):Ob:=⟨.type "dict",none,.dict #[den P "__name__" 165 xR,den P "__doc__" 166 .none,den P "__package__" 167 .none,den P "__loader__" 168 (.builtin "__main__.__loader__#opaque"),den P "__spec__" 169 .none,den P "__annotations__" 170 (.ref 6),den P "__builtins__" 171 (.ref 4),den P "__file__" 173 q0,den P "__cached__" 174 .none,den P "RoadError" 206 (.ref 24),den P "NoFrame" 231 (.ref 44),den P "Spoilt" 256 (.ref 63),den P "NoPiece" 281 (.ref 82),den P "BadRoad" 306 (.ref 101),den P "BadTerms" 322 (.ref 113),den P "NotWide" 347 (.ref 132),den P "BadText" 363 (.ref 144),den P "NotNow" 390 (.ref 163),den P "BadWish" 415 (.ref 182),den P "NoRow" 440 (.ref 201),den P "is_from" 451 (.ref 210),den P "LAG_MOST_roads" 455 (.int 60 454),den P "DEEDS_MOST" 457 (.int 60 456),den P "COPIES_MOST" 459 (.int 3 458),den P "PLACE_MOST" 461 (.int 66 460),den P "RUN_MOST" 463 (.int 255 462),den P "copied" 469 (.ref 215),den P "deed_at" 477 (.ref 222),den P "has_whole_copy" 483 (.ref 227),den P "fairness" 489 (.ref 232),den P "is_copy" 497 (.ref 239),den P "is_deed" 503 (.ref 244),den P "check_road" 513 (.ref 251),den P "Road" 570 (.ref 287),den P "ahead" 581 (.ref 298),den P "need" 591 (.ref 305),den P "RING_MOST" 595 (.int 64 594),den P "ROOM_MOST_terms" 597 (.int 16 596),den P "LAG_MOST_terms" 599 (.int 32 598),den P "WAIT_LEAST_terms" 601 (.int 2 600),den P "WAIT_MOST" 603 (.int 64 602),den P "are_rooms" 609 (.ref 310),den P "are_waits" 617 (.ref 317),den P "Terms" 648 (.ref 332),den P "KINDS" 656 (.ref 337),den P "SIGNS" 658 q1,den P "UNNUMBERED" 661 (.ref 338),den P "NUMBER_MOST" 663 (.int 63 662),den P "ROOM_MOST_pieces" 665 (.int 16 664),den P "HELD_MOST" 667 (.int 15 666),den P "SIGNS_MOST" 669 (.int 4 668),den P "FRAME_BITS" 671 (.int 74 670),den P "CHECK_BITS" 673 (.int 8 672),den P "DIVISOR" 675 (.int 263 674),den P "DIVISOR_BITS" 677 (.int 9 676),den P "REMAINDER_MOST" 679 (.int 255 678),den P "NO_KIND" 681 q2,den P "NO_SIGN" 683 q3,den P "is_piece" 691 (.ref 345),den P "is_held" 700 (.ref 352),den P "are_signs" 706 (.ref 357),den P "remainder" 714 (.ref 364),den P "written" 722 (.ref 371),den P "body_of" 730 (.ref 378),den P "bits_of_held" 736 (.ref 383),den P "bits_of_signs" 745 (.ref 390),den P "is_frame" 752 (.ref 397),den P "read" 760 (.ref 404),den P "likely_piece" 767 (.ref 411),den P "kind_of" 774 (.ref 418),den P "held_of" 780 (.ref 423),den P "signs_of" 786 (.ref 428),den P "signs_of_pieces" 787 (.ref 428),den P "sign_of" 794 (.ref 435),den P "Meter" 865 (.ref 487),den P "WAIT_LEAST_ways" 869 (.int 2 868),den P "lowest" 878 (.ref 498),den P "Ways" 952 (.ref 550),den P "KNOWN_TO_HURRY" 956 (.int 2 955),den P "Sender" 1140 (.ref 691),den P "State" 1211 (.ref 754),den P "Shut" 1248 (.ref 789),den P "Calling" 1292 (.ref 829),den P "Open" 1336 (.ref 869),den P "Left" 1373 (.ref 902),den P "Leaving" 1410 (.ref 935),den P "Waiting" 1440 (.ref 961),den P "Closing" 1470 (.ref 987),den P "Taker" 1548 (.ref 1039),den P "TEXT_MOST" 1552 (.int 60 1551),den P "BEGIN" 1555 (.ref 1044),den P "END" 1558 (.ref 1045),den P "is_text" 1564 (.ref 1050),den P "read_or_none" 1571 (.ref 1057),den P "Hand" 1716 (.ref 1158),den P "SIDES" 1721 (.ref 1163),den P "WISHES_MOST" 1723 (.int 60 1722),den P "WISH_TURN_MOST" 1725 (.int 400 1724),den P "READ_MOST" 1727 (.int 60 1726),den P "is_wish" 1734 (.ref 1170),den P "is_value" 1742 (.ref 1177),den P "check_wishes" 1751 (.ref 1184),den P "last_turn_of" 1757 (.ref 1189),den P "own_row" 1764 (.ref 1196),den P "Walk" 1938 (.ref 1312)] 105,#[]⟩
def ae3:=lt 186
def ae2(P:Pm):=zd #[zm P 1772 xR,zq P 1774 "Walk" 1773,zl P 1776 650 1775,den P "__init__" 1786 (.ref 1210),den P "step" 1795 (.ref 1217),den P "let_come" 1806 (.ref 1224),den P "do_wish" 1817 (.ref 1231),den P "went" 1829 (.ref 1238),den P "let_read" 1839 (.ref 1245),den P "wind_up" 1847 (.ref 1252),den P "unread" 1856 (.ref 1259),den P "let_send" 1866 (.ref 1266),den P "tell_stand" 1878 (.ref 1273),den P "quiet" 1884 (.ref 1278),den P "side_is_quiet" 1893 (.ref 1285),den P "run" 1901 (.ref 1292),den P "rows" 1907 (.ref 1297),den P "given_in" 1913 (.ref 1302),den P "given_out" 1921 (.ref 1309),za P 1931 1310] 20
def ae1:=zt [(652,4,1209),(664,4,1216),(679,4,1223),(684,4,1230),(690,4,1237),(703,4,1244),(709,4,1251),(715,4,1258),(719,4,1265),(725,4,1272),(732,4,1277),(735,4,1284),(739,4,1291),(744,4,1296),(747,4,1301),(751,4,1308)]
def ae0:=ck "Walk" 1767 650 1200
def aeZ:=zf 1202 3 1199 xR 0
def Rr:=tq ["self","terms","roads","wishes"] 1780
abbrev Kj {α}:=nt (α:=α) "__init__" "Walk.__init__" (zi 109 0)
def aeY:=Kj f0
def Rq:=Kj cf 1777 652 4 3 1204 1784
def Rp:=Kj f1 3 xR 1209
def Ro:=tq ["self","side","wish"] 1790
abbrev Ki {α}:=nt (α:=α) "step" "Walk.step" (zi 109 1)
def aeX:=Ki f0
def Rn:=Ki cf 1787 664 1 3 1211 1793
def Rm:=Ki f1 3 xR 1216
def Rl:=tq ["self","side","sending","frame","what"] 1799
abbrev Kh {α}:=nt (α:=α) "let_come" "Walk.let_come" (zi 109 2)
def aeW:=Kh f0
def Rk:=Kh cf 1796 679 2 3 1218 1804
def Rj:=Kh f1 3 xR 1223
def Ri:=tq ["self","side","word","value","went"] 1810
abbrev Kg {α}:=nt (α:=α) "do_wish" "Walk.do_wish" (zi 109 3)
def aeV:=Kg f0
def Rh:=Kg cf 1807 684 4 3 1225 1815
def Rg:=Kg f1 3 xR 1230
def Rf:=tq ["self","side","word","value","hand","refusal"] 1821
abbrev Kf {α}:=nt (α:=α) "went" "Walk.went" (zi 109 4)
def aeU:=Kf f0
def Rc:=Kf cf 1818 690 4 3 1232 1827
def Q_:=Kf f1 3 xR 1237
def Q9:=tq ["self","side","many","things"] 1833
abbrev Ke {α}:=nt (α:=α) "let_read" "Walk.let_read" (zi 109 5)
def aeT:=Ke f0
def Q8:=Ke cf 1830 703 3 3 1239 1837
def Q7:=Ke f1 3 xR 1244
def Q6:=tq ["self","side"] 1843
abbrev Kd {α}:=nt (α:=α) "wind_up" "Walk.wind_up" (zi 109 6)
def aeS:=Kd f0
def Q5:=Kd cf 1840 709 2 3 1246 1845
def Q4:=Kd f1 3 xR 1251
def Q3:=tq ["self","side","taker"] 1851
abbrev Kc {α}:=nt (α:=α) "unread" "Walk.unread" (zi 109 7)
def aeR:=Kc f0
def Q2:=Kc cf 1848 715 2 3 1253 1854
def Q1:=Kc f1 3 xR 1258
def Q0:=tq ["self","side","what","sending"] 1860
abbrev Kb {α}:=nt (α:=α) "let_send" "Walk.let_send" (zi 109 8)
def aeQ:=Kb f0
def QZ:=Kb cf 1857 719 2 3 1260 1864
def QY:=Kb f1 3 xR 1265
def QX:=tq ["self","side","hand","sender","stand","waits"] 1870
abbrev Ka {α}:=nt (α:=α) "tell_stand" "Walk.tell_stand" (zi 109 9)
def aeP:=Ka f0
def QW:=Ka cf 1867 725 2 3 1267 1876
def QV:=Ka f1 3 xR 1272
abbrev T1 {α}:=nt (α:=α) "quiet" "Walk.quiet" (zi 109 10)
def aeO:=T1 f0
def QU:=cd "quiet" 1879 "Walk.quiet" 1880 1881 732 1 0 0 3 1274 true 181 1275 .none .none .none (.ref 1276) 1882 1883
def QT:=T1 f1 3 xR 1277
def QR:=tq ["self","side","hand"] 1888
abbrev J_ {α}:=nt (α:=α) "side_is_quiet" "Walk.side_is_quiet" (zi 109 11)
def aeN:=J_ f0
def QQ:=J_ cf 1885 735 2 3 1279 1891
def QP:=J_ f1 3 xR 1284
def QO:=tq ["self","most"] 1897
abbrev J9 {α}:=nt (α:=α) "run" "Walk.run" (zi 109 12)
def aeL:=J9 f0
def QN:=J9 cf 1894 739 2 3 1286 1899
def QM:=J9 f1 3 xR 1291
abbrev TZ {α}:=nt (α:=α) "rows" "Walk.rows" (zi 109 13)
def aeK:=TZ f0
def QL:=cd "rows" 1902 "Walk.rows" 1903 1904 744 1 0 0 3 1293 true 181 1294 .none .none .none (.ref 1295) 1905 1906
def QK:=TZ f1 3 xR 1296
abbrev TY {α}:=nt (α:=α) "given_in" "Walk.given_in" (zi 109 14)
def aeJ:=TY f0
def QJ:=cd "given_in" 1908 "Walk.given_in" 1909 1910 747 2 0 0 3 1298 true 181 1299 .none .none .none (.ref 1300) 1911 1912
def QI:=TY f1 3 xR 1301
def QH:=tq ["self","side"] 1917
abbrev J8 {α}:=nt (α:=α) "given_out" "Walk.given_out" (zi 109 15)
def aeI:=J8 f0
def QG:=J8 cf 1914 751 2 3 1303 1919
def QF:=J8 f1 3 xR 1308
def QD:=tq ["deeds","hands","last_wish","outs","roads","terms","told","turn","wishes"] 1922
def QC(P:Pm):=zd #[zm P 1772 xR,zl P 1776 650 1775,den P "__init__" 1786 (.ref 1210),den P "step" 1795 (.ref 1217),den P "let_come" 1806 (.ref 1224),den P "do_wish" 1817 (.ref 1231),den P "went" 1829 (.ref 1238),den P "let_read" 1839 (.ref 1245),den P "wind_up" 1847 (.ref 1252),den P "unread" 1856 (.ref 1259),den P "let_send" 1866 (.ref 1266),den P "tell_stand" 1878 (.ref 1273),den P "quiet" 1884 (.ref 1278),den P "side_is_quiet" 1893 (.ref 1285),den P "run" 1901 (.ref 1292),den P "rows" 1907 (.ref 1297),den P "given_in" 1913 (.ref 1302),den P "given_out" 1921 (.ref 1309),za P 1931 1310,den P "__dict__" 1933 (.ref 1313),den P "__weakref__" 1935 (.ref 1314),den P "__doc__" 1936 .none] 4
def QB:=zo "Walk" [.type "object"] [.ref 1312] 1311 [] none (q "Walk" 1765) (q "Walk" 1773)
def Qz:Ob:=⟨.type "getset_descriptor",none,.fields #[q "__dict__" 1932,.ref 1312,.builtin "function.__dict__",.builtin "function.__dict__#set"],#[]⟩
def Qy:Ob:=⟨.type "getset_descriptor",none,.fields #[q "__weakref__" 1934,.ref 1312,.builtin "ExceptionGroup.__weakref__",.none],#[]⟩
def aeH:=zs 1312
def aeF:=zb 1312
def aeE(P:Pm):Ob:=⟨.type "dict",none,.dict #[den P "__name__" 165 AJ,den P "__doc__" 166 .none,den P "__package__" 167 .none,den P "__loader__" 168 (.builtin "__main__.__loader__#opaque"),den P "__spec__" 169 .none,den P "__annotations__" 170 (.ref 6),den P "__builtins__" 171 (.ref 4),den P "__file__" 173 q0,den P "__cached__" 174 .none,den P "RoadError" 206 (.ref 24),den P "NoFrame" 231 (.ref 44),den P "Spoilt" 256 (.ref 63),den P "NoPiece" 281 (.ref 82),den P "BadRoad" 306 (.ref 101),den P "BadTerms" 322 (.ref 113),den P "NotWide" 347 (.ref 132),den P "BadText" 363 (.ref 144),den P "NotNow" 390 (.ref 163),den P "BadWish" 415 (.ref 182),den P "NoRow" 440 (.ref 201),den P "is_from" 451 (.ref 210),den P "LAG_MOST_roads" 455 (.int 60 454),den P "DEEDS_MOST" 457 (.int 60 456),den P "COPIES_MOST" 459 (.int 3 458),den P "PLACE_MOST" 461 (.int 66 460),den P "RUN_MOST" 463 (.int 255 462),den P "copied" 469 (.ref 215),den P "deed_at" 477 (.ref 222),den P "has_whole_copy" 483 (.ref 227),den P "fairness" 489 (.ref 232),den P "is_copy" 497 (.ref 239),den P "is_deed" 503 (.ref 244),den P "check_road" 513 (.ref 251),den P "Road" 570 (.ref 287),den P "ahead" 581 (.ref 298),den P "need" 591 (.ref 305),den P "RING_MOST" 595 (.int 64 594),den P "ROOM_MOST_terms" 597 (.int 16 596),den P "LAG_MOST_terms" 599 (.int 32 598),den P "WAIT_LEAST_terms" 601 (.int 2 600),den P "WAIT_MOST" 603 (.int 64 602),den P "are_rooms" 609 (.ref 310),den P "are_waits" 617 (.ref 317),den P "Terms" 648 (.ref 332),den P "KINDS" 656 (.ref 337),den P "SIGNS" 658 q1,den P "UNNUMBERED" 661 (.ref 338),den P "NUMBER_MOST" 663 (.int 63 662),den P "ROOM_MOST_pieces" 665 (.int 16 664),den P "HELD_MOST" 667 (.int 15 666),den P "SIGNS_MOST" 669 (.int 4 668),den P "FRAME_BITS" 671 (.int 74 670),den P "CHECK_BITS" 673 (.int 8 672),den P "DIVISOR" 675 (.int 263 674),den P "DIVISOR_BITS" 677 (.int 9 676),den P "REMAINDER_MOST" 679 (.int 255 678),den P "NO_KIND" 681 q2,den P "NO_SIGN" 683 q3,den P "is_piece" 691 (.ref 345),den P "is_held" 700 (.ref 352),den P "are_signs" 706 (.ref 357),den P "remainder" 714 (.ref 364),den P "written" 722 (.ref 371),den P "body_of" 730 (.ref 378),den P "bits_of_held" 736 (.ref 383),den P "bits_of_signs" 745 (.ref 390),den P "is_frame" 752 (.ref 397),den P "read" 760 (.ref 404),den P "likely_piece" 767 (.ref 411),den P "kind_of" 774 (.ref 418),den P "held_of" 780 (.ref 423),den P "signs_of" 786 (.ref 428),den P "signs_of_pieces" 787 (.ref 428),den P "sign_of" 794 (.ref 435),den P "Meter" 865 (.ref 487),den P "WAIT_LEAST_ways" 869 (.int 2 868),den P "lowest" 878 (.ref 498),den P "Ways" 952 (.ref 550),den P "KNOWN_TO_HURRY" 956 (.int 2 955),den P "Sender" 1140 (.ref 691),den P "State" 1211 (.ref 754),den P "Shut" 1248 (.ref 789),den P "Calling" 1292 (.ref 829),den P "Open" 1336 (.ref 869),den P "Left" 1373 (.ref 902),den P "Leaving" 1410 (.ref 935),den P "Waiting" 1440 (.ref 961),den P "Closing" 1470 (.ref 987),den P "Taker" 1548 (.ref 1039),den P "TEXT_MOST" 1552 (.int 60 1551),den P "BEGIN" 1555 (.ref 1044),den P "END" 1558 (.ref 1045),den P "is_text" 1564 (.ref 1050),den P "read_or_none" 1571 (.ref 1057),den P "Hand" 1716 (.ref 1158),den P "SIDES" 1721 (.ref 1163),den P "WISHES_MOST" 1723 (.int 60 1722),den P "WISH_TURN_MOST" 1725 (.int 400 1724),den P "READ_MOST" 1727 (.int 60 1726),den P "is_wish" 1734 (.ref 1170),den P "is_value" 1742 (.ref 1177),den P "check_wishes" 1751 (.ref 1184),den P "last_turn_of" 1757 (.ref 1189),den P "own_row" 1764 (.ref 1196),den P "Walk" 1938 (.ref 1312),den P "FIGURES" 1942 q4,den P "FIGURES_MOST" 1944 (.int 9 1943),den P "TURNS_MOST" 1946 (.int 4000 1945),den P "SIDE_WORDS" 1949 (.ref 1317),den P "NO_COPY" 1951 q5,den P "number_of" 1957 (.ref 1322),den P "numbers_of" 1963 (.ref 1327),den P "row_of_numbers" 1969 (.ref 1332),den P "row_of_terms" 1976 (.ref 1339),den P "terms_of" 1985 (.ref 1346),den P "word_of_copy" 1991 (.ref 1351),den P "word_of_deed" 1997 (.ref 1356),den P "row_of_road" 2003 (.ref 1361),den P "copy_of" 2011 (.ref 1368),den P "deed_of" 2017 (.ref 1373),den P "side_of_road" 2025 (.ref 1380),den P "deeds_of" 2031 (.ref 1385),den P "row_of_wish" 2039 (.ref 1392),den P "wish_of" 2048 (.ref 1399),den P "value_of" 2056 (.ref 1406),den P "turns_of" 2066 (.ref 1413),den P "THINGS_OF_BEGIN" 2070 (.int 4 2069),den P "things_of" 2077 (.ref 1420),den P "things_at_most" 2083 (.ref 1425),den P "reckoned" 2089 (.ref 1430),den P "kept" 2097 (.ref 1435),den P "WHOLE_WORDS" 2103 (.ref 1436),den P "SIDED_WORDS" 2108 (.ref 1437)] 133,#[]⟩
def aeD:=lt 246
def Qx:=tq ["0","1"] 1947
abbrev TX {α}:=nt (α:=α) "number_of" "number_of" (top 116)
def aeC:=TX f0
def Qw:=cd "number_of" 1952 "number_of" 1953 1954 759 1 0 0 3 1318 true 181 1319 .none .none .none (.ref 1320) 1955 1956
def Qu:=TX f1 3 Ek 1321
abbrev TV {α}:=nt (α:=α) "numbers_of" "numbers_of" (top 117)
def aeA:=TV f0
def Qt:=cd "numbers_of" 1958 "numbers_of" 1959 1960 765 1 0 0 3 1323 true 181 1324 .none .none .none (.ref 1325) 1961 1962
def Qs:=TV f1 3 Ek 1326
abbrev TU {α}:=nt (α:=α) "row_of_numbers" "row_of_numbers" (top 118)
def aez:=TU f0
def Qr:=cd "row_of_numbers" 1964 "row_of_numbers" 1965 1966 768 2 0 0 3 1328 true 181 1329 .none .none .none (.ref 1330) 1967 1968
def Qq:=TU f1 3 Ek 1331
def Qp:=tq ["terms"] 1973
abbrev J7 {α}:=nt (α:=α) "row_of_terms" "row_of_terms" (top 119)
def aex:=J7 f0
def Qo:=J7 cf 1970 770 1 3 1333 1974
def Qn:=J7 f1 3 Ek 1338
def Qm:=tq ["row","words","numbers"] 1980
abbrev J6 {α}:=nt (α:=α) "terms_of" "terms_of" (top 120)
def aev:=J6 f0
def Ql:=J6 cf 1977 772 1 3 1340 1983
def Qk:=J6 f1 3 Ek 1345
abbrev TR {α}:=nt (α:=α) "word_of_copy" "word_of_copy" (top 121)
def aeu:=TR f0
def Qj:=cd "word_of_copy" 1986 "word_of_copy" 1987 1988 781 1 0 0 3 1347 true 181 1348 .none .none .none (.ref 1349) 1989 1990
def Qi:=TR f1 3 Ek 1350
abbrev TQ {α}:=nt (α:=α) "word_of_deed" "word_of_deed" (top 122)
def aes:=TQ f0
def Qh:=cd "word_of_deed" 1992 "word_of_deed" 1993 1994 783 1 0 0 3 1352 true 181 1353 .none .none .none (.ref 1354) 1995 1996
def Qg:=TQ f1 3 Ek 1355
abbrev TN {α}:=nt (α:=α) "row_of_road" "row_of_road" (top 123)
def aer:=TN f0
def Qf:=cd "row_of_road" 1998 "row_of_road" 1999 2000 785 2 0 0 3 1357 true 181 1358 .none .none .none (.ref 1359) 2001 2002
def Qe:=TN f1 3 Ek 1360
def Qd:=tq ["word","numbers"] 2007
abbrev J5 {α}:=nt (α:=α) "copy_of" "copy_of" (top 124)
def aeq:=J5 f0
def Qc:=J5 cf 2004 787 1 3 1362 2009
def Qb:=J5 f1 3 Ek 1367
abbrev TM {α}:=nt (α:=α) "deed_of" "deed_of" (top 125)
def aep:=TM f0
def Qa:=cd "deed_of" 2012 "deed_of" 2013 2014 790 1 0 0 3 1369 true 181 1370 .none .none .none (.ref 1371) 2015 2016
def P_:=TM f1 3 Ek 1372
def P9:=tq ["row","words"] 2021
abbrev J4 {α}:=nt (α:=α) "side_of_road" "side_of_road" (top 126)
def aeo:=J4 f0
def P8:=J4 cf 2018 795 1 3 1374 2023
def P7:=J4 f1 3 Ek 1379
abbrev TL {α}:=nt (α:=α) "deeds_of" "deeds_of" (top 127)
def aen:=TL f0
def P6:=cd "deeds_of" 2026 "deeds_of" 2027 2028 800 2 0 0 3 1381 true 181 1382 .none .none .none (.ref 1383) 2029 2030
def P5:=TL f1 3 Ek 1384
def P4:=tq ["wish","words"] 2035
abbrev J3 {α}:=nt (α:=α) "row_of_wish" "row_of_wish" (top 128)
def aem:=J3 f0
def P2:=J3 cf 2032 809 1 3 1386 2037
def P1:=J3 f1 3 Ek 1391
def P0:=tq ["row","words","wish"] 2043
abbrev J2 {α}:=nt (α:=α) "wish_of" "wish_of" (top 129)
def ael:=J2 f0
def PZ:=J2 cf 2040 812 1 3 1393 2046
def PY:=J2 f1 3 Ek 1398
def PX:=tq ["word","behind"] 2052
abbrev J1 {α}:=nt (α:=α) "value_of" "value_of" (top 130)
def aek:=J1 f0
def PV:=J1 cf 2049 818 2 3 1400 2054
def PU:=J1 f1 3 Ek 1405
def PR:=tq ["row","word","words","turns"] 2060
abbrev J0 {α}:=nt (α:=α) "turns_of" "turns_of" (top 131)
def aej:=J0 f0
def PQ:=J0 cf 2057 822 2 3 1407 2064
def PN:=J0 f1 3 Ek 1412
def PM:=tq ["wish"] 2074
abbrev JZ {α}:=nt (α:=α) "things_of" "things_of" (top 134)
def aei:=JZ f0
def PL:=JZ cf 2071 830 1 3 1414 2075
def PJ:=JZ f1 3 q23 1419
abbrev TK {α}:=nt (α:=α) "things_at_most" "things_at_most" (top 135)
def aeh:=TK f0
def PF:=cd "things_at_most" 2078 "things_at_most" 2079 2080 836 1 0 0 3 1421 true 181 1422 .none .none .none (.ref 1423) 2081 2082
def PD:=TK f1 3 q23 1424
abbrev TJ {α}:=nt (α:=α) "reckoned" "reckoned" (top 136)
def aeg:=TJ f0
def PC:=cd "reckoned" 2084 "reckoned" 2085 2086 838 3 0 0 3 1426 true 181 1427 .none .none .none (.ref 1428) 2087 2088
def PB:=TJ f1 3 q23 1429
abbrev TF {α}:=nt (α:=α) "kept" "kept" (top 138)
def aef:=TF f0
def Pz:=cd "kept" 2092 "kept" 2093 2094 848 1 0 0 3 1431 true 181 1432 .none .none .none (.ref 1433) 2095 2096
def Py:=TF f1 3 (q "slowroad.texts" 2090) 1434
def Px:=tq ["quiet","bound","kept"] 2100
def Pw:=tq ["state","stand","in","out"] 2104
def aee(P:Pm):=md P AJ 134 135
def aed:=lt 252
abbrev TC {α}:=nt (α:=α) "signs_of" "signs_of" (top 142)
def aec:=TC f0
def Pu:=cd "signs_of" 2109 "signs_of" 2110 2111 857 1 0 0 3 1438 true 181 1439 .none .none .none (.ref 1440) 2112 2113
def Pt:=TC f1 3 AJ 1441
def aeb(P:Pm):=zd #[zm P 2123 AJ,zq P 2125 "Talk" 2124,zl P 2127 860 2126,den P "__init__" 2135 (.ref 1456),den P "hear_row" 2144 (.ref 1463),den P "hear_road" 2154 (.ref 1470),den P "hear_wish" 2163 (.ref 1477),den P "made_walk" 2170 (.ref 1484),den P "go_to" 2179 (.ref 1491),den P "run_to" 2187 (.ref 1498),den P "tell_whole" 2197 (.ref 1505),den P "tell_side" 2203 (.ref 1510),za P 2208 1511] 13
def aea:=zt [(862,4,1455),(868,4,1462),(884,4,1469),(892,4,1476),(899,4,1483),(904,4,1490),(912,4,1497),(915,4,1504),(924,4,1509)]
def ad_:=ck "Talk" 2118 860 1446
def ad9:=zf 1448 3 1445 AJ 0
def Pr:=tq ["self","terms"] 2131
abbrev JY {α}:=nt (α:=α) "__init__" "Talk.__init__" (zi 144 0)
def ad8:=JY f0
def Pq:=JY cf 2128 862 2 3 1450 2133
def Pp:=JY f1 3 AJ 1455
def Po:=tq ["self","row","words"] 2139
abbrev JX {α}:=nt (α:=α) "hear_row" "Talk.hear_row" (zi 144 1)
def ad7:=JX f0
def Pn:=JX cf 2136 868 2 3 1457 2142
def Pl:=JX f1 3 AJ 1462
def Pk:=tq ["self","row","side","deeds"] 2148
abbrev JW {α}:=nt (α:=α) "hear_road" "Talk.hear_road" (zi 144 2)
def ad5:=JW f0
def Pj:=JW cf 2145 884 2 3 1464 2152
def Ph:=JW f1 3 AJ 1469
def Pg:=tq ["self","row","wish"] 2158
abbrev JV {α}:=nt (α:=α) "hear_wish" "Talk.hear_wish" (zi 144 3)
def ad3:=JV f0
def Pf:=JV cf 2155 892 2 3 1471 2161
def Pe:=JV f1 3 AJ 1476
def Pd:=tq ["self"] 2167
abbrev JU {α}:=nt (α:=α) "made_walk" "Talk.made_walk" (zi 144 4)
def ad2:=JU f0
def Pc:=JU cf 2164 899 1 3 1478 2168
def Pb:=JU f1 3 AJ 1483
def Pa:=tq ["self","turns","walk"] 2174
abbrev JT {α}:=nt (α:=α) "go_to" "Talk.go_to" (zi 144 5)
def ad1:=JT f0
def O_:=JT cf 2171 904 2 3 1485 2177
def O9:=JT f1 3 AJ 1490
def O8:=tq ["self","turns"] 2183
abbrev JS {α}:=nt (α:=α) "run_to" "Talk.run_to" (zi 144 6)
def ad0:=JS f0
def O7:=JS cf 2180 912 2 3 1492 2185
def O6:=JS f1 3 AJ 1497
def O5:=tq ["self","word","walk","turns"] 2191
abbrev JR {α}:=nt (α:=α) "tell_whole" "Talk.tell_whole" (zi 144 7)
def adZ:=JR f0
def O4:=JR cf 2188 915 2 3 1499 2195
def O3:=JR f1 3 AJ 1504
abbrev TB {α}:=nt (α:=α) "tell_side" "Talk.tell_side" (zi 144 8)
def adY:=TB f0
def O2:=cd "tell_side" 2198 "Talk.tell_side" 2199 2200 924 3 0 0 3 1506 true 181 1507 .none .none .none (.ref 1508) 2201 2202
def O1:=TB f1 3 AJ 1509
def O0:=tq ["deeds","terms","walk","wishes"] 2204
def OZ(P:Pm):=zd #[zm P 2123 AJ,zl P 2127 860 2126,den P "__init__" 2135 (.ref 1456),den P "hear_row" 2144 (.ref 1463),den P "hear_road" 2154 (.ref 1470),den P "hear_wish" 2163 (.ref 1477),den P "made_walk" 2170 (.ref 1484),den P "go_to" 2179 (.ref 1491),den P "run_to" 2187 (.ref 1498),den P "tell_whole" 2197 (.ref 1505),den P "tell_side" 2203 (.ref 1510),za P 2208 1511,den P "__dict__" 2210 (.ref 1514),den P "__weakref__" 2212 (.ref 1515),den P "__doc__" 2213 .none] 4
def OY:=zo "Talk" [.type "object"] [.ref 1513] 1512 [] none (q "Talk" 2116) (q "Talk" 2124)
def OX:Ob:=⟨.type "getset_descriptor",none,.fields #[q "__dict__" 2209,.ref 1513,.builtin "function.__dict__",.builtin "function.__dict__#set"],#[]⟩
def OW:Ob:=⟨.type "getset_descriptor",none,.fields #[q "__weakref__" 2211,.ref 1513,.builtin "ExceptionGroup.__weakref__",.none],#[]⟩
def adX:=zs 1513
def adW:=zb 1513
def OV(P:Pm):Ob:=⟨.type "dict",none,.dict #[den P "__name__" 165 L6,den P "__doc__" 166 .none,den P "__package__" 167 .none,den P "__loader__" 168 (.builtin "__main__.__loader__#opaque"),den P "__spec__" 169 .none,den P "__annotations__" 170 (.ref 6),den P "__builtins__" 171 (.ref 4),den P "__file__" 173 q0,den P "__cached__" 174 .none,den P "RoadError" 206 (.ref 24),den P "NoFrame" 231 (.ref 44),den P "Spoilt" 256 (.ref 63),den P "NoPiece" 281 (.ref 82),den P "BadRoad" 306 (.ref 101),den P "BadTerms" 322 (.ref 113),den P "NotWide" 347 (.ref 132),den P "BadText" 363 (.ref 144),den P "NotNow" 390 (.ref 163),den P "BadWish" 415 (.ref 182),den P "NoRow" 440 (.ref 201),den P "is_from" 451 (.ref 210),den P "LAG_MOST_roads" 455 (.int 60 454),den P "DEEDS_MOST" 457 (.int 60 456),den P "COPIES_MOST" 459 (.int 3 458),den P "PLACE_MOST" 461 (.int 66 460),den P "RUN_MOST" 463 (.int 255 462),den P "copied" 469 (.ref 215),den P "deed_at" 477 (.ref 222),den P "has_whole_copy" 483 (.ref 227),den P "fairness" 489 (.ref 232),den P "is_copy" 497 (.ref 239),den P "is_deed" 503 (.ref 244),den P "check_road" 513 (.ref 251),den P "Road" 570 (.ref 287),den P "ahead" 581 (.ref 298),den P "need" 591 (.ref 305),den P "RING_MOST" 595 (.int 64 594),den P "ROOM_MOST_terms" 597 (.int 16 596),den P "LAG_MOST_terms" 599 (.int 32 598),den P "WAIT_LEAST_terms" 601 (.int 2 600),den P "WAIT_MOST" 603 (.int 64 602),den P "are_rooms" 609 (.ref 310),den P "are_waits" 617 (.ref 317),den P "Terms" 648 (.ref 332),den P "KINDS" 656 (.ref 337),den P "SIGNS" 658 q1,den P "UNNUMBERED" 661 (.ref 338),den P "NUMBER_MOST" 663 (.int 63 662),den P "ROOM_MOST_pieces" 665 (.int 16 664),den P "HELD_MOST" 667 (.int 15 666),den P "SIGNS_MOST" 669 (.int 4 668),den P "FRAME_BITS" 671 (.int 74 670),den P "CHECK_BITS" 673 (.int 8 672),den P "DIVISOR" 675 (.int 263 674),den P "DIVISOR_BITS" 677 (.int 9 676),den P "REMAINDER_MOST" 679 (.int 255 678),den P "NO_KIND" 681 q2,den P "NO_SIGN" 683 q3,den P "is_piece" 691 (.ref 345),den P "is_held" 700 (.ref 352),den P "are_signs" 706 (.ref 357),den P "remainder" 714 (.ref 364),den P "written" 722 (.ref 371),den P "body_of" 730 (.ref 378),den P "bits_of_held" 736 (.ref 383),den P "bits_of_signs" 745 (.ref 390),den P "is_frame" 752 (.ref 397),den P "read" 760 (.ref 404),den P "likely_piece" 767 (.ref 411),den P "kind_of" 774 (.ref 418),den P "held_of" 780 (.ref 423),den P "signs_of" 786 (.ref 1442),den P "signs_of_pieces" 787 (.ref 428),den P "sign_of" 794 (.ref 435),den P "Meter" 865 (.ref 487),den P "WAIT_LEAST_ways" 869 (.int 2 868),den P "lowest" 878 (.ref 498),den P "Ways" 952 (.ref 550),den P "KNOWN_TO_HURRY" 956 (.int 2 955),den P "Sender" 1140 (.ref 691),den P "State" 1211 (.ref 754),den P "Shut" 1248 (.ref 789),den P "Calling" 1292 (.ref 829),den P "Open" 1336 (.ref 869),den P "Left" 1373 (.ref 902),den P "Leaving" 1410 (.ref 935),den P "Waiting" 1440 (.ref 961),den P "Closing" 1470 (.ref 987),den P "Taker" 1548 (.ref 1039),den P "TEXT_MOST" 1552 (.int 60 1551),den P "BEGIN" 1555 (.ref 1044),den P "END" 1558 (.ref 1045),den P "is_text" 1564 (.ref 1050),den P "read_or_none" 1571 (.ref 1057),den P "Hand" 1716 (.ref 1158),den P "SIDES" 1721 (.ref 1163),den P "WISHES_MOST" 1723 (.int 60 1722),den P "WISH_TURN_MOST" 1725 (.int 400 1724),den P "READ_MOST" 1727 (.int 60 1726),den P "is_wish" 1734 (.ref 1170),den P "is_value" 1742 (.ref 1177),den P "check_wishes" 1751 (.ref 1184),den P "last_turn_of" 1757 (.ref 1189),den P "own_row" 1764 (.ref 1196),den P "Walk" 1938 (.ref 1312),den P "FIGURES" 1942 q4,den P "FIGURES_MOST" 1944 (.int 9 1943),den P "TURNS_MOST" 1946 (.int 4000 1945),den P "SIDE_WORDS" 1949 (.ref 1317),den P "NO_COPY" 1951 q5,den P "number_of" 1957 (.ref 1322),den P "numbers_of" 1963 (.ref 1327),den P "row_of_numbers" 1969 (.ref 1332),den P "row_of_terms" 1976 (.ref 1339),den P "terms_of" 1985 (.ref 1346),den P "word_of_copy" 1991 (.ref 1351),den P "word_of_deed" 1997 (.ref 1356),den P "row_of_road" 2003 (.ref 1361),den P "copy_of" 2011 (.ref 1368),den P "deed_of" 2017 (.ref 1373),den P "side_of_road" 2025 (.ref 1380),den P "deeds_of" 2031 (.ref 1385),den P "row_of_wish" 2039 (.ref 1392),den P "wish_of" 2048 (.ref 1399),den P "value_of" 2056 (.ref 1406),den P "turns_of" 2066 (.ref 1413),den P "THINGS_OF_BEGIN" 2070 (.int 4 2069),den P "things_of" 2077 (.ref 1420),den P "things_at_most" 2083 (.ref 1425),den P "reckoned" 2089 (.ref 1430),den P "kept" 2097 (.ref 1435),den P "WHOLE_WORDS" 2103 (.ref 1436),den P "SIDED_WORDS" 2108 (.ref 1437),den P "signs_of_desk" 2115 (.ref 1442),den P "Talk" 2215 (.ref 1513),den P "Desk" 2270 (.ref 1555),den P "_law_cell_at" 2280 (.ref 1566),den P "_law_mixed" 2290 (.ref 1573),den P "_law_numbers" 2303 (.ref 1580),den P "_law_early" 2311 (.ref 1587),den P "_law_refused" 2323 (.ref 1594),den P "_law_terms_row" 2329 (.ref 1599),den P "_law_bound" 2342 (.ref 1606),den P "_law_asked" 2357 (.ref 1613),den P "law" 2370 (.ref 1620)] 145,#[]⟩
def adV:=lt 282
def adU(P:Pm):=zd #[zm P 2223 AJ,zq P 2225 "Desk" 2224,zl P 2227 933 2226,den P "__init__" 2234 (.ref 1531),den P "say" 2243 (.ref 1538),den P "answer_to" 2251 (.ref 1545),den P "hear_terms" 2260 (.ref 1552),za P 2263 1553] 8
def adT:=zt [(935,4,1530),(939,4,1537),(946,4,1544),(951,4,1551)]
def adS:=ck "Desk" 2218 933 1521
def adR:=zf 1523 3 1520 AJ 0
def OU:=tq ["self"] 2231
abbrev JQ {α}:=nt (α:=α) "__init__" "Desk.__init__" (zi 145 0)
def adQ:=JQ f0
def OT:=JQ cf 2228 935 1 3 1525 2232
def OS:=JQ f1 3 AJ 1530
def OR:=tq ["self","row","told"] 2238
abbrev JP {α}:=nt (α:=α) "say" "Desk.say" (zi 145 1)
def adP:=JP f0
def OQ:=JP cf 2235 939 2 3 1532 2241
def OP:=JP f1 3 AJ 1537
def OO:=tq ["self","row"] 2247
abbrev JO {α}:=nt (α:=α) "answer_to" "Desk.answer_to" (zi 145 2)
def adO:=JO f0
def OM:=JO cf 2244 946 2 3 1539 2249
def OL:=JO f1 3 AJ 1544
def OK:=tq ["self","row","terms"] 2255
abbrev JN {α}:=nt (α:=α) "hear_terms" "Desk.hear_terms" (zi 145 3)
def adN:=JN f0
def OJ:=JN cf 2252 951 2 3 1546 2258
def OI:=JN f1 3 AJ 1551
def OH:=tq ["rows_answered","talk"] 2261
def OG(P:Pm):=zd #[zm P 2223 AJ,zl P 2227 933 2226,den P "__init__" 2234 (.ref 1531),den P "say" 2243 (.ref 1538),den P "answer_to" 2251 (.ref 1545),den P "hear_terms" 2260 (.ref 1552),za P 2263 1553,den P "__dict__" 2265 (.ref 1556),den P "__weakref__" 2267 (.ref 1557),den P "__doc__" 2268 .none] 4
def OE:=zo "Desk" [.type "object"] [.ref 1555] 1554 [] none (q "Desk" 2216) (q "Desk" 2224)
def OD:Ob:=⟨.type "getset_descriptor",none,.fields #[q "__dict__" 2264,.ref 1555,.builtin "function.__dict__",.builtin "function.__dict__#set"],#[]⟩
def OC:Ob:=⟨.type "getset_descriptor",none,.fields #[q "__weakref__" 2266,.ref 1555,.builtin "ExceptionGroup.__weakref__",.none],#[]⟩
def adM:=zs 1555
def adL:=zb 1555
def OB:=tq ["_law_script","_law_k"] 2276
abbrev JM {α}:=nt (α:=α) "_law_cell_at" "_law_cell_at" (top 147)
def adK:=JM f0
def OA:=JM cf 2273 958 2 3 1560 2278
def Oz:=JM f1 3 L6 1565
def Oy:=tq ["_law_cell","_law_k","_law_number","_law_step"] 2284
abbrev JL {α}:=nt (α:=α) "_law_mixed" "_law_mixed" (top 148)
def adJ:=JL f0
def Ox:=JL cf 2281 962 2 3 1567 2288
def Ow:=JL f1 3 L6 1572
def Ov:=tq ["_law_cell","_law_rooms","_law_lag","_law_least","_law_room","_law_first","_law_longest"] 2294
abbrev JK {α}:=nt (α:=α) "_law_numbers" "_law_numbers" (top 149)
def adI:=JK f0
def Ou:=JK cf 2291 969 1 3 1574 2301
def Ot:=JK f1 3 L6 1579
def Oq:=tq ["_law_cell","_law_some"] 2307
abbrev JJ {α}:=nt (α:=α) "_law_early" "_law_early" (top 150)
def adH:=JJ f0
def Oo:=JJ cf 2304 981 1 3 1581 2309
def Om:=JJ f1 3 L6 1586
def Ol:=tq ["_law_desk","_law_row","_law_at","_law_error","e","_law_told"] 2315
abbrev JI {α}:=nt (α:=α) "_law_refused" "_law_refused" (top 151)
def adG:=JI f0
def Oj:=JI cf 2312 986 3 3 1588 2321
def Oi:=JI f1 3 L6 1593
abbrev Tz {α}:=nt (α:=α) "_law_terms_row" "_law_terms_row" (top 152)
def adF:=Tz f0
def Oh:=cd "_law_terms_row" 2324 "_law_terms_row" 2325 2326 996 1 0 0 3 1595 true 181 1596 .none .none .none (.ref 1597) 2327 2328
def Og:=Tz f1 3 L6 1598
def Of:=tq ["_law_numbers_here","_law_ring","_law_one","_law_other","_law_lag","_law_first","_law_longest"] 2333
abbrev JH {α}:=nt (α:=α) "_law_bound" "_law_bound" (top 153)
def adE:=JH f0
def Oe:=JH cf 2330 998 1 3 1600 2340
def Od:=JH f1 3 L6 1605
def Oc:=tq ["_law_desk","_law_numbers_here","_law_cell","_law_due","_law_side","_law_at","_law_row","_law_text","_law_found"] 2346
abbrev JG {α}:=nt (α:=α) "_law_asked" "_law_asked" (top 154)
def adD:=JG f0
def Oa:=JG cf 2343 1001 3 3 1607 2355
def N_:=JG f1 3 L6 1612
def N9:=tq ["_law_script","_law_desk","_law_cell","_law_taken","_law_numbers_here","_law_many","_law_row"] 2361
abbrev JF {α}:=nt (α:=α) "law" "law" (top 155)
def adC:=JF f0
def N8:=JF cf 2358 1013 1 3 1614 2368
def N7:=JF f1 3 L6 1619
local macro_rules
 | `(#[0]) => `(List.nil)
 | `(#[0,$n:num,$x]) => `(List.cons (nat_lit $n, $x) List.nil)
 | `(#[0,$n:num,$x,$xs,*]) => `(List.cons (nat_lit $n, $x) #[0,$xs,*])
def AK:Params->Frag:=fun P=>#[0,2,boot_o_2 P,3,OV P,15,o17,22,ai,23,o25 P,24,ado,25,o27,28,BU,35,ai,37,o39,38,ai,40,o42,41,o43,42,o44,43,o45 P,44,o46,47,BU,54,ai,56,o58,57,ai,59,o61,60,o62,61,o63,62,o64 P,63,o65,66,BU,73,ai,75,o80,76,ai,78,o83,79,o84,80,o85,81,o86 P,82,o87,85,BU,92,ai,94,o99,95,ai,97,afT,98,afP,99,afJ,100,afH P,101,afF,104,BU,111,ai,112,afe P,113,ae_,116,BU,123,ai,125,aeM,126,ai,128,aeG,129,aeB,130,aey,131,aew P,132,aet,135,BU,142,ai,143,ad6 P,144,ad4,147,BU,154,ai,156,adB,157,ai,159,adA,160,adz,161,ady,162,adx P,163,adw,166,BU,173,ai,175,adv,176,ai,178,adu,179,adt,180,ads,181,adq P,182,adp,185,BU,192,ai,194,adn,195,ai,197,adm,198,adl,199,adk,200,adj P,201,adi,204,ai,206,adh,207,ai,209,adg,210,adf,211,ai,214,ade,215,adb,216,ai,218,ada,219,ai,221,ac_,222,ac9,223,ai,226,ac8,227,ac7,228,ai,231,ac6,232,ac5,233,ai,235,ac4,236,ai,238,ac3,239,ac2,240,ai,243,ac1,244,ac0,245,ai,247,acZ,248,ai,250,acY,251,acX,259,ai,261,acW,262,ai,264,acV,265,acU,266,ai,268,acT,269,ai,271,acS,272,acR,273,ai,276,acQ,277,acP,278,ai,280,acO,281,ai,283,acN,284,acM,285,acL,286,acK P,287,acJ,288,acI,289,acH,292,ai,294,acG,295,ai,297,acF,298,acE,299,ai,301,acD,302,ai,304,acC,305,acB,306,ai,309,acA,310,acz,311,ai,313,acy,314,ai,316,acx,317,acw,325,ai,328,acv,329,acu,330,acs,331,acr P,332,acq,333,acp,334,aco,337,acn,338,acm,339,ai,341,ack,342,ai,344,acj,345,aci,346,ai,348,ach,349,ai,351,acg,352,acf,353,ai,356,ace,357,acd,358,ai,360,acb,361,ai,363,aca,364,ab_,365,ai,367,ab9,368,ai,370,ab8,371,ab7,372,ai,374,ab6,375,ai,377,ab5,378,ab4,379,ai,382,ab3,383,ab2,384,ai,386,ab1,387,ai,389,ab0,390,abZ,391,ai,393,abY,394,ai,396,abX,397,abW,398,ai,400,abV,401,ai,403,abU,404,abT,405,ai,407,abS,408,ai,410,abR,411,abQ,412,ai,414,abP,415,ai,417,abO,418,abN,419,ai,422,abM,423,abL,424,ai,427,abK,428,abJ,429,ai,431,abI,432,ai,434,abH,435,abG,443,ai,445,abF,446,ai,448,abE,449,abD,450,ai,452,abC,453,ai,455,abB,456,abA,457,ai,459,abz,460,ai,462,aby,463,abx,464,ai,466,abw,467,ai,469,abv,470,abu,471,ai,473,abt,474,ai,476,abr,477,abq,478,ai,480,abp,481,ai,483,abo,484,abn,485,abm,486,abl P,487,abk,488,abj,489,abi,492,ai,494,abh,495,ai,497,abg,498,abf,506,ai,508,abe,509,ai,511,abd,512,abc,513,ai,515,abb,516,ai,518,aba,519,aa_,520,ai,522,aa9,523,ai,525,aa8,526,aa7,527,ai,529,aa6,530,ai,532,aa5,533,aa4,534,ai,536,aa3,537,ai,539,aa2,540,aa1,541,ai,543,aa0,544,ai,546,aaZ,547,aaY,548,aaX,549,aaW P,550,aaV,551,aaU,552,aaT,562,ai,564,aaS,565,ai,567,aaR,568,aaQ,569,ai,571,aaP,572,ai,574,aaO,575,aaN,576,ai,578,aaM,579,ai,581,aaL,582,aaK,583,ai,585,aaJ,586,ai,588,aaI,589,aaH,590,ai,592,aaG,593,ai,595,aaF,596,aaE,597,ai,599,aaD,600,ai,602,aaC,603,aaB,604,ai,607,aaA,608,aaz,609,ai,612,aay,613,aax,614,ai,617,aaw,618,aav,619,ai,621,aau,622,ai,624,aat,625,aas,626,ai,628,aar,629,ai,631,aaq,632,aap,633,ai,635,aao,636,ai,638,aan,639,aam,640,ai,642,aal,643,ai,645,aak,646,aaj,647,ai,649,aai,650,ai,652,aah,653,aag,654,ai,656,aaf,657,ai,659,aae,660,aad,661,ai,663,aac,664,ai,666,aab,667,aaa,668,ai,670,Z_,671,ai,673,Z9,674,Z8,675,ai,677,Z7,678,ai,680,Z6,681,Z5,682,ai,684,Z4,685,ai,687,Z3,688,Z2,689,Z1,690,Z0 P,691,ZZ,692,ZY,693,ZX,703,ai,705,ZW,706,ai,708,ZV,709,ZU,710,ai,712,ZT,713,ai,715,ZS,716,ZR,717,ai,719,ZQ,720,ai,722,ZP,723,ZO,724,ai,726,ZN,727,ai,729,ZM,730,ZL,731,ai,733,ZK,734,ai,736,ZJ,737,ZI,738,ai,740,ZH,741,ai,743,ZG,744,ZF,745,ai,747,ZE,748,ai,750,ZD,751,ZC,752,ai,753,ZA P,754,Tr,755,Zz,756,Zy,759,vz,766,ai,768,Zx,769,ai,771,Zw,772,Zv,773,ai,775,Zu,776,ai,778,Zt,779,Zs,780,ai,782,Zr,783,ai,785,Zq,786,Zp,787,ai,788,Zo P,789,Zn,792,vz,799,ai,801,Zm,802,ai,804,Zl,805,Zk,806,ai,808,Zj,809,ai,811,Zi,812,Zh,813,ai,815,Zg,816,ai,818,Zf,819,Ze,820,ai,822,Zd,823,ai,825,Zc,826,Zb,827,ai,828,Za P,829,Y_,832,vz,839,ai,841,Y9,842,ai,844,Y8,845,Y7,846,ai,848,Y6,849,ai,851,Y5,852,Y4,853,ai,855,Y3,856,ai,858,Y2,859,Y1,860,ai,862,Y0,863,ai,865,YZ,866,YY,867,ai,868,YX P,869,YW,872,vz,879,ai,881,YV,882,ai,884,YU,885,YT,886,ai,888,YS,889,ai,891,YR,892,YQ,893,ai,895,YO,896,ai,898,YN,899,YM,900,ai,901,YL P,902,YK,905,vz,912,ai,914,YJ,915,ai,917,YI,918,YH,919,ai,921,YG,922,ai,924,YF,925,YE,926,ai,928,YD,929,ai,931,YC,932,YB,933,ai,934,YA P,935,Yz,938,vz,945,ai,947,Yy,948,ai,950,Yx,951,Yw,952,ai,954,Yv,955,ai,957,Yu,958,Yt,959,ai,960,Ys P,961,Yr,964,vz,971,ai,973,Tq,974,ai,976,Tp,977,To,978,ai,980,Tn,981,ai,983,Tj,984,Ti,985,ai,986,Th P,987,Tg,997,ai,999,Tf,1000,ai,1002,Te,1003,Td,1004,ai,1006,Tc,1007,ai,1009,Tb,1010,Ta,1011,ai,1013,S_,1014,ai,1016,S0,1017,SX,1018,ai,1020,SW,1021,ai,1023,SV,1024,SU,1025,ai,1028,SS,1029,SR,1030,ai,1032,SQ,1033,ai,1035,SO,1036,SN,1037,SM,1038,SK P,1039,SJ,1040,SI,1041,SH,1044,SG,1045,SF,1046,ai,1049,SE,1050,SD,1051,ai,1053,Sz,1054,ai,1056,Sy,1057,Sx,1065,ai,1067,Sw,1068,ai,1070,Sv,1071,Su,1072,ai,1074,Ss,1075,ai,1077,Sr,1078,Sq,1079,ai,1081,So,1082,ai,1084,Sn,1085,Sm,1086,ai,1088,Sl,1089,ai,1091,Sk,1092,Sj,1093,ai,1095,Si,1096,ai,1098,Sh,1099,Sg,1100,ai,1102,Sf,1103,ai,1105,Se,1106,Sb,1107,ai,1109,Sa,1110,ai,1112,R_,1113,R9,1114,ai,1116,R8,1117,ai,1119,R7,1120,R6,1121,ai,1123,R5,1124,ai,1126,R4,1127,R3,1128,ai,1130,R0,1131,ai,1133,RZ,1134,RY,1135,ai,1137,RX,1138,ai,1140,RW,1141,RV,1142,ai,1144,RU,1145,ai,1147,RT,1148,RS,1149,ai,1151,RR,1152,ai,1154,RQ,1155,RP,1156,RO,1157,RN P,1158,RM,1159,RL,1160,RK,1163,RJ,1164,ai,1166,RI,1167,ai,1169,RH,1170,RG,1171,ai,1173,RF,1174,ai,1176,RE,1177,RD,1178,ai,1180,RC,1181,ai,1183,RB,1184,Ry,1185,ai,1188,Rx,1189,Rw,1190,ai,1192,Rv,1193,ai,1195,Ru,1196,Rt,1204,ai,1206,Rr,1207,ai,1209,Rq,1210,Rp,1211,ai,1213,Ro,1214,ai,1216,Rn,1217,Rm,1218,ai,1220,Rl,1221,ai,1223,Rk,1224,Rj,1225,ai,1227,Ri,1228,ai,1230,Rh,1231,Rg,1232,ai,1234,Rf,1235,ai,1237,Rc,1238,Q_,1239,ai,1241,Q9,1242,ai,1244,Q8,1245,Q7,1246,ai,1248,Q6,1249,ai,1251,Q5,1252,Q4,1253,ai,1255,Q3,1256,ai,1258,Q2,1259,Q1,1260,ai,1262,Q0,1263,ai,1265,QZ,1266,QY,1267,ai,1269,QX,1270,ai,1272,QW,1273,QV,1274,ai,1277,QU,1278,QT,1279,ai,1281,QR,1282,ai,1284,QQ,1285,QP,1286,ai,1288,QO,1289,ai,1291,QN,1292,QM,1293,ai,1296,QL,1297,QK,1298,ai,1301,QJ,1302,QI,1303,ai,1305,QH,1306,ai,1308,QG,1309,QF,1310,QD,1311,QC P,1312,QB,1313,Qz,1314,Qy,1317,Qx,1318,ai,1321,Qw,1322,Qu,1323,ai,1326,Qt,1327,Qs,1328,ai,1331,Qr,1332,Qq,1333,ai,1335,Qp,1336,ai,1338,Qo,1339,Qn,1340,ai,1342,Qm,1343,ai,1345,Ql,1346,Qk,1347,ai,1350,Qj,1351,Qi,1352,ai,1355,Qh,1356,Qg,1357,ai,1360,Qf,1361,Qe,1362,ai,1364,Qd,1365,ai,1367,Qc,1368,Qb,1369,ai,1372,Qa,1373,P_,1374,ai,1376,P9,1377,ai,1379,P8,1380,P7,1381,ai,1384,P6,1385,P5,1386,ai,1388,P4,1389,ai,1391,P2,1392,P1,1393,ai,1395,P0,1396,ai,1398,PZ,1399,PY,1400,ai,1402,PX,1403,ai,1405,PV,1406,PU,1407,ai,1409,PR,1410,ai,1412,PQ,1413,PN,1414,ai,1416,PM,1417,ai,1419,PL,1420,PJ,1421,ai,1424,PF,1425,PD,1426,ai,1429,PC,1430,PB,1431,ai,1434,Pz,1435,Py,1436,Px,1437,Pw,1438,ai,1441,Pu,1442,Pt,1450,ai,1452,Pr,1453,ai,1455,Pq,1456,Pp,1457,ai,1459,Po,1460,ai,1462,Pn,1463,Pl,1464,ai,1466,Pk,1467,ai,1469,Pj,1470,Ph,1471,ai,1473,Pg,1474,ai,1476,Pf,1477,Pe,1478,ai,1480,Pd,1481,ai,1483,Pc,1484,Pb,1485,ai,1487,Pa,1488,ai,1490,O_,1491,O9,1492,ai,1494,O8,1495,ai,1497,O7,1498,O6,1499,ai,1501,O5,1502,ai,1504,O4,1505,O3,1506,ai,1509,O2,1510,O1,1511,O0,1512,OZ P,1513,OY,1514,OX,1515,OW,1525,ai,1527,OU,1528,ai,1530,OT,1531,OS,1532,ai,1534,OR,1535,ai,1537,OQ,1538,OP,1539,ai,1541,OO,1542,ai,1544,OM,1545,OL,1546,ai,1548,OK,1549,ai,1551,OJ,1552,OI,1553,OH,1554,OG P,1555,OE,1556,OD,1557,OC,1560,ai,1562,OB,1563,ai,1565,OA,1566,Oz,1567,ai,1569,Oy,1570,ai,1572,Ox,1573,Ow,1574,ai,1576,Ov,1577,ai,1579,Ou,1580,Ot,1581,ai,1583,Oq,1584,ai,1586,Oo,1587,Om,1588,ai,1590,Ol,1591,ai,1593,Oj,1594,Oi,1595,ai,1598,Oh,1599,Og,1600,ai,1602,Of,1603,ai,1605,Oe,1606,Od,1607,ai,1609,Oc,1610,ai,1612,Oa,1613,N_,1614,ai,1616,N9,1617,ai,1619,N8,1620,N7]
def bU:Program:={Challenge.pw_slowroad_k84_desk_newly_told with main:={Challenge.pw_slowroad_k84_desk_newly_told.main with body:=[top 1,top 2,top 3,top 4,top 5,top 6,top 7,top 8,top 9,top 10,top 11,top 13,top 15,top 16,top 17,top 18,top 19,top 20,top 21,top 22,top 23,top 24,top 25,top 26,top 27,top 29,top 31,top 33,top 34,top 35,top 36,top 37,top 38,top 39,top 40,top 42,top 43,top 44,top 45,top 46,top 47,top 48,top 49,top 50,top 51,top 52,top 53,top 54,top 55,top 56,top 57,top 58,top 59,top 60,top 61,top 62,top 63,top 64,top 65,top 66,top 67,top 68,top 70,top 71,top 73,top 75,top 76,top 77,top 79,top 80,top 82,top 83,top 84,top 85,top 86,top 87,top 88,top 89,top 91,top 93,top 94,top 95,top 96,top 97,top 98,top 100,top 101,top 102,top 103,top 104,top 105,top 106,top 107,top 108,top 109,top 111,top 112,top 113,top 114,top 115,top 116,top 117,top 118,top 119,top 120,top 121,top 122,top 123,top 124,top 125,top 126,top 127,top 128,top 129,top 130,top 131,top 133,top 134,top 135,top 136,top 138,top 140,top 141,top 142,top 143,top 144,top 145,top 147,top 148,top 149,top 150,top 151,top 152,top 153,top 154,top 155]}}
def jC:List Addr:=[2,3,15,22,23,24,25,28,35,37,38,40,41,42,43,44,47,54,56,57,59,60,61,62,63,66,73,75,76,78,79,80,81,82,85,92,94,95,97,98,99,100,101,104,111,112,113,116,123,125,126,128,129,130,131,132,135,142,143,144,147,154,156,157,159,160,161,162,163,166,173,175,176,178,179,180,181,182,185,192,194,195,197,198,199,200,201,204,206,207,209,210,211,214,215,216,218,219,221,222,223,226,227,228,231,232,233,235,236,238,239,240,243,244,245,247,248,250,251,259,261,262,264,265,266,268,269,271,272,273,276,277,278,280,281,283,284,285,286,287,288,289,292,294,295,297,298,299,301,302,304,305,306,309,310,311,313,314,316,317,325,328,329,330,331,332,333,334,337,338,339,341,342,344,345,346,348,349,351,352,353,356,357,358,360,361,363,364,365,367,368,370,371,372,374,375,377,378,379,382,383,384,386,387,389,390,391,393,394,396,397,398,400,401,403,404,405,407,408,410,411,412,414,415,417,418,419,422,423,424,427,428,429,431,432,434,435,443,445,446,448,449,450,452,453,455,456,457,459,460,462,463,464,466,467,469,470,471,473,474,476,477,478,480,481,483,484,485,486,487,488,489,492,494,495,497,498,506,508,509,511,512,513,515,516,518,519,520,522,523,525,526,527,529,530,532,533,534,536,537,539,540,541,543,544,546,547,548,549,550,551,552,562,564,565,567,568,569,571,572,574,575,576,578,579,581,582,583,585,586,588,589,590,592,593,595,596,597,599,600,602,603,604,607,608,609,612,613,614,617,618,619,621,622,624,625,626,628,629,631,632,633,635,636,638,639,640,642,643,645,646,647,649,650,652,653,654,656,657,659,660,661,663,664,666,667,668,670,671,673,674,675,677,678,680,681,682,684,685,687,688,689,690,691,692,693,703,705,706,708,709,710,712,713,715,716,717,719,720,722,723,724,726,727,729,730,731,733,734,736,737,738,740,741,743,744,745,747,748,750,751,752,753,754,755,756,759,766,768,769,771,772,773,775,776,778,779,780,782,783,785,786,787,788,789,792,799,801,802,804,805,806,808,809,811,812,813,815,816,818,819,820,822,823,825,826,827,828,829,832,839,841,842,844,845,846,848,849,851,852,853,855,856,858,859,860,862,863,865,866,867,868,869,872,879,881,882,884,885,886,888,889,891,892,893,895,896,898,899,900,901,902,905,912,914,915,917,918,919,921,922,924,925,926,928,929,931,932,933,934,935,938,945,947,948,950,951,952,954,955,957,958,959,960,961,964,971,973,974,976,977,978,980,981,983,984,985,986,987,997,999,1000,1002,1003,1004,1006,1007,1009,1010,1011,1013,1014,1016,1017,1018,1020,1021,1023,1024,1025,1028,1029,1030,1032,1033,1035,1036,1037,1038,1039,1040,1041,1044,1045,1046,1049,1050,1051,1053,1054,1056,1057,1065,1067,1068,1070,1071,1072,1074,1075,1077,1078,1079,1081,1082,1084,1085,1086,1088,1089,1091,1092,1093,1095,1096,1098,1099,1100,1102,1103,1105,1106,1107,1109,1110,1112,1113,1114,1116,1117,1119,1120,1121,1123,1124,1126,1127,1128,1130,1131,1133,1134,1135,1137,1138,1140,1141,1142,1144,1145,1147,1148,1149,1151,1152,1154,1155,1156,1157,1158,1159,1160,1163,1164,1166,1167,1169,1170,1171,1173,1174,1176,1177,1178,1180,1181,1183,1184,1185,1188,1189,1190,1192,1193,1195,1196,1204,1206,1207,1209,1210,1211,1213,1214,1216,1217,1218,1220,1221,1223,1224,1225,1227,1228,1230,1231,1232,1234,1235,1237,1238,1239,1241,1242,1244,1245,1246,1248,1249,1251,1252,1253,1255,1256,1258,1259,1260,1262,1263,1265,1266,1267,1269,1270,1272,1273,1274,1277,1278,1279,1281,1282,1284,1285,1286,1288,1289,1291,1292,1293,1296,1297,1298,1301,1302,1303,1305,1306,1308,1309,1310,1311,1312,1313,1314,1317,1318,1321,1322,1323,1326,1327,1328,1331,1332,1333,1335,1336,1338,1339,1340,1342,1343,1345,1346,1347,1350,1351,1352,1355,1356,1357,1360,1361,1362,1364,1365,1367,1368,1369,1372,1373,1374,1376,1377,1379,1380,1381,1384,1385,1386,1388,1389,1391,1392,1393,1395,1396,1398,1399,1400,1402,1403,1405,1406,1407,1409,1410,1412,1413,1414,1416,1417,1419,1420,1421,1424,1425,1426,1429,1430,1431,1434,1435,1436,1437,1438,1441,1442,1450,1452,1453,1455,1456,1457,1459,1460,1462,1463,1464,1466,1467,1469,1470,1471,1473,1474,1476,1477,1478,1480,1481,1483,1484,1485,1487,1488,1490,1491,1492,1494,1495,1497,1498,1499,1501,1502,1504,1505,1506,1509,1510,1511,1512,1513,1514,1515,1525,1527,1528,1530,1531,1532,1534,1535,1537,1538,1539,1541,1542,1544,1545,1546,1548,1549,1551,1552,1553,1554,1555,1556,1557,1560,1562,1563,1565,1566,1567,1569,1570,1572,1573,1574,1576,1577,1579,1580,1581,1583,1584,1586,1587,1588,1590,1591,1593,1594,1595,1598,1599,1600,1602,1603,1605,1606,1607,1609,1610,1612,1613,1614,1616,1617,1619,1620]
theorem vC: ∀P,jC=(AK P).map (·.1):=fun _=>by kernel_rfl
def Gk:Env:={scope:=pg.main.scope,locals:=mainNs,globals:=mainNs,cells:=[],code:=Value.ref 13,frame:=some 14}
def z5:List Stmt:=behindTheImports pg
def Uh:Code:= .body z5 Gk
abbrev hdB:List Frame:=[topFrame (Pos.mk 0 0 0 0)]
abbrev hdn:Option Value:=Option.some (Value.ref 6)
def hpre:Params->Heap:=fun P=>⟨Array.mk [boot_o_0 P,boot_o_1 P,boot_o_2 P,boot_o_3 P,boot_o_4 P,boot_o_5 P,boot_o_6 P,boot_o_7 P,boot_o_8 P,boot_o_9 P,boot_o_10 P,ai,bj,o13,o14],Life.mk List.nil List.nil List.nil 0 List.nil List.nil Bool.false (List.toArray List.nil) List.nil 0 Bool.false Bool.false Bool.false 0 (List.cons 2000 (List.cons 10 (List.cons 10 List.nil))) Bool.false 0 Bool.true List.nil List.nil 0 Bool.false⟩
theorem WU (w:World) (os:OsState):topGo treeTable pg w 11 hdn 12 (⟨boot_heap w.params,Array.mk [],boot_drawn,boot_toks,os⟩:Shared) (topStub pg)=some ((⟨hpre w.params,Array.mk [],Drawn.mk 0 0 0 0,187,os⟩:Shared),⟨denote treeTable Uh,Uh,Pos.mk 0 0 0 0,hdB⟩):=by kernel_rfl
def D_ (P:Pm):BT:=up [boot_o_0 P,boot_o_1 P,boot_o_2 P,boot_o_3 P,boot_o_4 P,boot_o_5 P,boot_o_6 P,boot_o_7 P,boot_o_8 P,boot_o_9 P,boot_o_10 P,ai,bj,o13,o14] .nil 0
abbrev lif:Life:=Life.mk List.nil List.nil List.nil 0 List.nil List.nil Bool.false (List.toArray List.nil) List.nil 0 Bool.false Bool.false Bool.false 0 (List.cons 2000 (List.cons 10 (List.cons 10 List.nil))) Bool.false 0 Bool.true List.nil List.nil 0 Bool.false
abbrev sh (t:Pm->BT) (n k:Nat) (w:World) (os:OsState):SharedT:=SharedT.mk (t w.params) n lif (Array.mk []) (Drawn.mk 0 0 0 0) k os
def hgg (i j:Nat):List Stmt:=(z5.drop i).take j
abbrev sgr (w:World) (os:OsState) (n:Nat) (a:World->OsState->SharedT) (l:List Stmt) (p:Pos) (b:World->OsState->SharedT) (q:Pos):Prop:=segRunT treeTable pg w 11 hdn 1 n (a w os) (piecesOf l Gk Uh p hdB)=some (.next,b w os,Uh,q)
abbrev z4:=sh D_ 15 187
theorem Xc (w:World) (os:OsState):segRun treeTable pg w 11 hdn 1 1 (⟨hpre w.params,Array.mk [],Drawn.mk 0 0 0 0,187,os⟩:Shared) (blockOf z5 Gk Uh (Pos.mk 0 0 0 0) hdB)=some (.next,((z4 w os)).abs,Uh,Pos.mk 0 0 0 0):=by kernel_rfl
def T8 (P:Pm):BT:=up [o17,vA,o19 P,ai,bj,o22,o23,ai,o25 P,o26,o27,o28,o29,BU,vA,o32 P,ai,o34,o35,o36,ai,bj,o39,ai,o41,o42,o43,o44,o45 P,o46,o47,o48,BU,vA,o51 P,ai,o53,o54,o55,ai,bj,o58,ai,o60,o61,o62,o63,o64 P,o65,o66,o67] (ch [(3,o15 P),(12,o16)] (D_ P)) 15
abbrev Ua:=sh T8 66 257
def hg4:=hgg 0 4
theorem ahc (w os):sgr w os 686 z4 hg4 (.mk 0 0 0 0) Ua (.mk 8 0 11 26):=by unfold sgr;kernel_rfl
def T7 (P:Pm):BT:=up [BU,vA,o73 P,ai,o75,o76,o77,ai,bj,o80,ai,o82,o83,o84,o85,o86 P,o87,o88,o89,BU,vA,o92 P,ai,o94,o95,o96,ai,bj,o99,ai,alC,afT,afP,afJ,afH P,afF,alB,alA] (ch [(3,o68 P),(12,o69),(24,o70)] (T8 P)) 66
abbrev T_:=sh T7 104 307
def hg6:=hgg 4 2
theorem ahb (w os):sgr w os 491 Ua hg6 (.mk 8 0 11 26) T_ (.mk 16 0 19 20):=by unfold sgr;kernel_rfl
def T5 (P:Pm):BT:=up [BU,vA,alw P,ai,bj,alv,alu,ai,afe P,ae_,als,alr,BU,vA,alq P,ai,alp,alo,aln,ai,bj,aeM,ai,alm,aeG,aeB,aey,aew P,aet,alk,alj,BU,vA,ali P,ai,bj,alh,alg,ai,ad6 P,ad4,alf,ale] (ch [(3,alz P),(12,aly),(24,alx)] (T7 P)) 104
abbrev T9:=sh T5 147 364
def hg9:=hgg 6 3
theorem aha (w os):sgr w os 672 T_ hg9 (.mk 16 0 19 20) T9 (.mk 26 0 27 8):=by unfold sgr;kernel_rfl
def Ld (P:Pm):BT:=up [BU,vA,ala P,ai,ak_,ak9,ak8,ai,bj,adB,ai,ak7,adA,adz,ady,adx P,adw,ak6,ak5,BU,vA,ak4 P,ai,ak3,ak2,ak1,ai,bj,adv,ai,ak0,adu,adt,ads,adq P,adp,akZ,akY] (ch [(3,ald P),(12,alc),(24,alb)] (T5 P)) 147
abbrev Lq:=sh Ld 185 416
def agv:=hgg 9 2
theorem Xa (w os):sgr w os 493 T9 agv (.mk 26 0 27 8) Lq (.mk 33 0 36 20):=by unfold sgr;kernel_rfl
def Lc (P:Pm):BT:=up [BU,vA,akV P,ai,akU,akT,akS,ai,bj,adn,ai,akR,adm,adl,adk,adj P,adi,akQ,akP,ai,bj,adh,ai,akO,adg,adf,ai,bj,akN,ade,adb,ai,bj,ada,ai,akM,ac_,ac9,ai,bj,akL,ac8,ac7,ai,bj,akK,ac6,ac5,ai,bj,ac4,ai,akJ,ac3,ac2,ai,bj,akI,ac1,ac0,ai,bj,acZ,ai,akH,acY,acX] (ch [(3,akX P),(12,akW),(24,ado)] (Ld P)) 185
abbrev Lp:=sh Lc 252 514
def agu:=hgg 11 16
theorem W_ (w os):sgr w os 536 Lq agu (.mk 33 0 36 20) Lp (.mk 70 0 75 29):=by unfold sgr;kernel_rfl
def Lb (P:Pm):BT:=up [ai,vA,akE P,ai,akD,akC,akB,ai,bj,acW,ai,akA,acV,acU,ai,bj,acT,ai,akz,acS,acR,ai,bj,aky,acQ,acP,ai,bj,acO,ai,akx,acN,acM,acL,acK P,acJ,acI,acH,akw,akv,ai,bj,acG,ai,aku,acF,acE,ai,bj,acD,ai,akt,acC,acB,ai,bj,aks,acA,acz,ai,bj,acy,ai,akr,acx,acw] (ch [(3,akG P),(12,akF)] (Lc P)) 252
abbrev Lo:=sh Lb 318 618
def agt:=hgg 27 13
theorem W8 (w os):sgr w os 510 Lp agt (.mk 70 0 75 29) Lo (.mk 112 0 113 102):=by unfold sgr;kernel_rfl
def La (P:Pm):BT:=up [ai,vA,ako P,ai,akn,akm,akl,ai,bj,akk,acv,acu,acs,acr P,acq,acp,aco,akj,aki,acn,acm,ai,bj,ack,ai,akh,acj,aci,ai,bj,ach,ai,akg,acg,acf,ai,bj,akf,ace,acd,ai,bj,acb,ai,ake,aca,ab_,ai,bj,ab9,ai,akd,ab8,ab7,ai,bj,ab6,ai,akc,ab5,ab4,ai,bj,akb,ab3,ab2,ai,bj,ab1,ai,aka,ab0,abZ,ai,bj,abY,ai,aj_,abX,abW,ai,bj,abV,ai,aj9,abU,abT,ai,bj,abS,ai,aj8,abR,abQ] (ch [(3,akq P),(12,akp)] (Lb P)) 318
abbrev Ln:=sh La 412 768
def ags:=hgg 40 27
theorem W7 (w os):sgr w os 689 Lo ags (.mk 112 0 113 102) Ln (.mk 200 0 201 144):=by unfold sgr;kernel_rfl
def K_ (P:Pm):BT:=up [ai,bj,abP,ai,aj5,abO,abN,ai,bj,aj4,abM,abL,ai,bj,aj3,abK,abJ,ai,bj,abI,ai,aj2,abH,abG,ai,vA,aj1 P,ai,aj0,ajZ,ajY,ai,bj,abF,ai,ajX,abE,abD,ai,bj,abC,ai,ajW,abB,abA,ai,bj,abz,ai,ajV,aby,abx,ai,bj,abw,ai,ajU,abv,abu,ai,bj,abt,ai,ajT,abr,abq,ai,bj,abp,ai,ajS,abo,abn,abm,abl P,abk,abj,abi,ajR,ajQ,ai,bj,abh,ai,ajP,abg,abf] (ch [(3,aj7 P),(12,aj6)] (La P)) 412
abbrev Lm:=sh K_ 499 879
def agr:=hgg 67 10
theorem W6 (w os):sgr w os 561 Ln agr (.mk 200 0 201 144) Lm (.mk 249 0 251 44):=by unfold sgr;kernel_rfl
def K8 (P:Pm):BT:=up [ai,vA,ajM P,ai,ajL,ajK,ajJ,ai,bj,abe,ai,ajI,abd,abc,ai,bj,abb,ai,ajH,aba,aa_,ai,bj,aa9,ai,ajG,aa8,aa7,ai,bj,aa6,ai,ajF,aa5,aa4,ai,bj,aa3,ai,ajE,aa2,aa1,ai,bj,aa0,ai,ajD,aaZ,aaY,aaX,aaW P,aaV,aaU,aaT,ajC,ajB] (ch [(3,ajO P),(12,ajN)] (K_ P)) 499
abbrev Ll:=sh K8 555 957
def agq:=hgg 77 3
theorem W5 (w os):sgr w os 406 Lm agq (.mk 249 0 251 44) Ll (.mk 284 0 284 14):=by unfold sgr;kernel_rfl
def K7 (P:Pm):BT:=up [ai,vA,ajy P,ai,ajx,ajw,ajv,ai,bj,aaS,ai,aju,aaR,aaQ,ai,bj,aaP,ai,ajt,aaO,aaN,ai,bj,aaM,ai,ajs,aaL,aaK,ai,bj,aaJ,ai,ajr,aaI,aaH,ai,bj,aaG,ai,ajq,aaF,aaE,ai,bj,aaD,ai,ajp,aaC,aaB,ai,bj,ajo,aaA,aaz,ai,bj,ajn,aay,aax,ai,bj,ajm,aaw,aav,ai,bj,aau,ai,ajl,aat,aas,ai,bj,aar,ai,ajk,aaq,aap,ai,bj,aao,ai,ajj,aan,aam,ai,bj,aal,ai,aji,aak,aaj,ai,bj,aai,ai,ajh,aah,aag,ai,bj,aaf,ai,ajg,aae,aad,ai,bj,aac,ai,ajf,aab,aaa,ai,bj,Z_,ai,aje,Z9,Z8,ai,bj,Z7,ai,ajd,Z6,Z5,ai,bj,Z4,ai,ajc,Z3,Z2,Z1,Z0 P,ZZ,ZY,ZX,ajb,aja] (ch [(3,ajA P),(12,ajz)] (K8 P)) 555
abbrev Lk:=sh K7 696 1141
def agp:=hgg 80 1
theorem W4 (w os):sgr w os 804 Ll agp (.mk 284 0 284 14) Lk (.mk 285 0 396 28):=by unfold sgr;kernel_rfl
def K4 (P:Pm):BT:=up [ai,vA,ai8 P,ai,ai7,ai6,ai5,ai,bj,ZW,ai,ai4,ZV,ZU,ai,bj,ZT,ai,ai3,ZS,ZR,ai,bj,ZQ,ai,ai2,ZP,ZO,ai,bj,ZN,ai,ai1,ZM,ZL,ai,bj,ZK,ai,ai0,ZJ,ZI,ai,bj,ZH,ai,aiZ,ZG,ZF,ai,bj,ZE,ai,aiY,ZD,ZC,ai,ZA P,aiX,Zz,Zy,aiW,aiV] (ch [(3,ai_ P),(12,ai9)] (K7 P)) 696
abbrev Lj:=sh K4 759 1212
def ago:=hgg 81 2
theorem W3 (w os):sgr w os 416 Lk ago (.mk 285 0 396 28) Lj (.mk 398 0 419 19):=by unfold sgr;kernel_rfl
def K3 (P:Pm):BT:=up [vz,vA,aiR P,ai,aiQ,aiP,aiO,ai,bj,Zx,ai,aiN,Zw,Zv,ai,bj,Zu,ai,aiM,Zt,Zs,ai,bj,Zr,ai,aiL,Zq,Zp,ai,Zo P,Zn,aiK,aiJ,vz,vA,aiI P,ai,aiH,aiG,aiF,ai,bj,Zm,ai,aiE,Zl,Zk,ai,bj,Zj,ai,aiD,Zi,Zh,ai,bj,Zg,ai,aiC,Zf,Ze,ai,bj,Zd,ai,aiB,Zc,Zb,ai,Za P,Y_,aiA,aiz] (ch [(3,aiU P),(12,aiT),(754,aiS)] (K4 P)) 759
abbrev Li:=sh K3 832 1293
def agn:=hgg 83 2
theorem W2 (w os):sgr w os 642 Lj agn (.mk 398 0 419 19) Li (.mk 430 0 442 21):=by unfold sgr;kernel_rfl
def K2 (P:Pm):BT:=up [vz,vA,aiv P,ai,aiu,ait,ais,ai,bj,Y9,ai,air,Y8,Y7,ai,bj,Y6,ai,aiq,Y5,Y4,ai,bj,Y3,ai,aip,Y2,Y1,ai,bj,Y0,ai,aio,YZ,YY,ai,YX P,YW,ain,aim,vz,vA,ail P,ai,aik,aij,aii,ai,bj,YV,ai,aih,YU,YT,ai,bj,YS,ai,aif,YR,YQ,ai,bj,YO,ai,aie,YN,YM,ai,YL P,YK,aid,aic] (ch [(3,aiy P),(12,aix),(754,aiw)] (K3 P)) 832
abbrev Lh:=sh K2 905 1374
def agm:=hgg 85 2
theorem W0 (w os):sgr w os 642 Li agm (.mk 430 0 442 21) Lh (.mk 456 0 465 19):=by unfold sgr;kernel_rfl
def K1 (P:Pm):BT:=up [vz,vA,ah9 P,ai,ah8,ah7,ah6,ai,bj,YJ,ai,ah5,YI,YH,ai,bj,YG,ai,ah4,YF,YE,ai,bj,YD,ai,ah3,YC,YB,ai,YA P,Yz,ah2,ah1,vz,vA,ah0 P,ai,ahZ,ahY,ahX,ai,bj,Yy,ai,ahW,Yx,Yw,ai,bj,Yv,ai,ahV,Yu,Yt,ai,Ys P,Yr,ahU,ahT] (ch [(3,aib P),(12,aia),(754,ah_)] (K2 P)) 905
abbrev Lg:=sh K1 964 1441
def agl:=hgg 87 2
theorem WZ (w os):sgr w os 580 Lh agl (.mk 456 0 465 19) Lg (.mk 476 0 482 21):=by unfold sgr;kernel_rfl
def K0 (P:Pm):BT:=up [vz,vA,afY P,ai,afX,afW,afV,ai,bj,Tq,ai,afU,Tp,To,ai,bj,Tn,ai,afS,Tj,Ti,ai,Th P,Tg,afR,afQ,ai,vA,afO P,ai,afN,afM,afL,ai,bj,Tf,ai,afK,Te,Td,ai,bj,Tc,ai,afI,Tb,Ta,ai,bj,S_,ai,afG,S0,SX,ai,bj,SW,ai,afE,SV,SU,ai,bj,afD,SS,SR,ai,bj,SQ,ai,afC,SO,SN,SM,SK P,SJ,SI,SH,afB,afA,SG] (ch [(3,ahS P),(12,afZ),(754,Tr)] (K1 P)) 964
abbrev Lf:=sh K0 1045 1556
def agk:=hgg 89 6
theorem WY (w os):sgr w os 701 Lg agk (.mk 476 0 482 21) Lf (.mk 531 0 531 5):=by unfold sgr;kernel_rfl
def KZ (P:Pm):BT:=up [SF,ai,bj,afx,SE,SD,ai,bj,Sz,ai,afw,Sy,Sx,ai,vA,afv P,ai,afu,aft,afs,ai,bj,Sw,ai,afr,Sv,Su,ai,bj,Ss,ai,afq,Sr,Sq,ai,bj,So,ai,afp,Sn,Sm,ai,bj,Sl,ai,afo,Sk,Sj,ai,bj,Si,ai,afn,Sh,Sg,ai,bj,Sf,ai,afm,Se,Sb,ai,bj,Sa,ai,afl,R_,R9,ai,bj,R8,ai,afk,R7,R6,ai,bj,R5,ai,afj,R4,R3,ai,bj,R0,ai,afi,RZ,RY,ai,bj,RX,ai,afh,RW,RV,ai,bj,RU,ai,afg,RT,RS,ai,bj,RR,ai,aff,RQ,RP,RO,RN P,RM,RL,RK,afd,afc] (ch [(3,afz P),(12,afy)] (K0 P)) 1045
abbrev Le:=sh KZ 1163 1717
def agj:=hgg 95 4
theorem WX (w os):sgr w os 694 Lf agj (.mk 531 0 531 5) Le (.mk 540 0 628 98):=by unfold sgr;kernel_rfl
def Ge (P:Pm):BT:=up [RJ,ai,bj,RI,ai,ae9,RH,RG,ai,bj,RF,ai,ae8,RE,RD,ai,bj,RC,ai,ae7,RB,Ry,ai,bj,ae6,Rx,Rw,ai,bj,Rv,ai,ae5,Ru,Rt] (ch [(3,afb P),(12,afa)] (KZ P)) 1163
abbrev Gj:=sh Ge 1197 1765
def Ug:=hgg 99 10
theorem NB (w os):sgr w os 194 Le Ug (.mk 540 0 628 98) Gj (.mk 648 0 649 78):=by unfold sgr;kernel_rfl
def Gd (P:Pm):BT:=up [ai,vA,ae2 P,ai,ae1,ae0,aeZ,ai,bj,Rr,ai,aeY,Rq,Rp,ai,bj,Ro,ai,aeX,Rn,Rm,ai,bj,Rl,ai,aeW,Rk,Rj,ai,bj,Ri,ai,aeV,Rh,Rg,ai,bj,Rf,ai,aeU,Rc,Q_,ai,bj,Q9,ai,aeT,Q8,Q7,ai,bj,Q6,ai,aeS,Q5,Q4,ai,bj,Q3,ai,aeR,Q2,Q1,ai,bj,Q0,ai,aeQ,QZ,QY,ai,bj,QX,ai,aeP,QW,QV,ai,bj,aeO,QU,QT,ai,bj,QR,ai,aeN,QQ,QP,ai,bj,QO,ai,aeL,QN,QM,ai,bj,aeK,QL,QK,ai,bj,aeJ,QJ,QI,ai,bj,QH,ai,aeI,QG,QF,QD,QC P,QB,Qz,Qy,aeH,aeF] (ch [(3,ae4 P),(12,ae3)] (Ge P)) 1197
abbrev Gi:=sh Gd 1317 1939
def Ue:=hgg 109 1
theorem NA (w os):sgr w os 722 Gj Ue (.mk 648 0 649 78) Gi (.mk 650 0 752 36):=by unfold sgr;kernel_rfl
def Gb (P:Pm):BT:=up [Qx,ai,bj,aeC,Qw,Qu,ai,bj,aeA,Qt,Qs,ai,bj,aez,Qr,Qq,ai,bj,Qp,ai,aex,Qo,Qn,ai,bj,Qm,ai,aev,Ql,Qk,ai,bj,aeu,Qj,Qi,ai,bj,aes,Qh,Qg,ai,bj,aer,Qf,Qe,ai,bj,Qd,ai,aeq,Qc,Qb,ai,bj,aep,Qa,P_,ai,bj,P9,ai,aeo,P8,P7,ai,bj,aen,P6,P5,ai,bj,P4,ai,aem,P2,P1,ai,bj,P0,ai,ael,PZ,PY,ai,bj,PX,ai,aek,PV,PU,ai,bj,PR,ai,aej,PQ,PN,ai,bj,PM,ai,aei,PL,PJ,ai,bj,aeh,PF,PD,ai,bj,aeg,PC,PB,ai,bj,aef,Pz,Py,Px,Pw] (ch [(3,aeE P),(12,aeD)] (Gd P)) 1317
abbrev Gh:=sh Gb 1438 2109
def Ud:=hgg 110 32
theorem Nz (w os):sgr w os 679 Gi Ud (.mk 650 0 752 36) Gh (.mk 856 0 856 11):=by unfold sgr;kernel_rfl
def Ga (P:Pm):BT:=up [ai,bj,aec,Pu,Pt,ai,vA,aeb P,ai,aea,ad_,ad9,ai,bj,Pr,ai,ad8,Pq,Pp,ai,bj,Po,ai,ad7,Pn,Pl,ai,bj,Pk,ai,ad5,Pj,Ph,ai,bj,Pg,ai,ad3,Pf,Pe,ai,bj,Pd,ai,ad2,Pc,Pb,ai,bj,Pa,ai,ad1,O_,O9,ai,bj,O8,ai,ad0,O7,O6,ai,bj,O5,ai,adZ,O4,O3,ai,bj,adY,O2,O1,O0,OZ P,OY,OX,OW,adX,adW] (ch [(3,aee P),(12,aed)] (Gb P)) 1438
abbrev Gg:=sh Ga 1518 2216
def Uc:=hgg 142 3
theorem Ny (w os):sgr w os 520 Gh Uc (.mk 856 0 856 11) Gg (.mk 860 0 932 91):=by unfold sgr;kernel_rfl
def F_ (P:Pm):BT:=up [ai,vA,adU P,ai,adT,adS,adR,ai,bj,OU,ai,adQ,OT,OS,ai,bj,OR,ai,adP,OQ,OP,ai,bj,OO,ai,adO,OM,OL,ai,bj,OK,ai,adN,OJ,OI,OH,OG P,OE,OD,OC,adM,adL,ai,bj,OB,ai,adK,OA,Oz,ai,bj,Oy,ai,adJ,Ox,Ow,ai,bj,Ov,ai,adI,Ou,Ot,ai,bj,Oq,ai,adH,Oo,Om,ai,bj,Ol,ai,adG,Oj,Oi,ai,bj,adF,Oh,Og,ai,bj,Of,ai,adE,Oe,Od,ai,bj,Oc,ai,adD,Oa,N_,ai,bj,N9,ai,adC,N8,N7] (ch [(3,OV P),(12,adV)] (Ga P)) 1518
abbrev Gf:=sh F_ 1621 2371
def Ub:=hgg 145 11
theorem Nw (w os):sgr w os 624 Gg Ub (.mk 860 0 932 91) Gf (.mk 1013 0 1028 15):=by unfold sgr;kernel_rfl
def hfin:Pm->Heap:=fun P=>⟨Array.mk ((F_ P).list 1621),Life.mk List.nil List.nil List.nil 0 List.nil List.nil Bool.false (List.toArray List.nil) List.nil 0 Bool.false Bool.false Bool.false 0 (List.cons 2000 (List.cons 10 (List.cons 10 List.nil))) Bool.false 0 Bool.true List.nil List.nil 0 Bool.false⟩
theorem Xb (w:World) (os:OsState):topRun treeTable pg w 11 hdn 2 ((Gf w os)).abs ⟨doneF .next,Uh,Pos.mk 1013 0 1028 15,hdB⟩=some (⟨hfin w.params,Array.mk [],Drawn.mk 0 0 0 0,2371,os⟩:Shared):=by kernel_rfl
theorem Nu (w:World) (os:OsState):topRun treeTable pg w 11 hdn 12264 ((z4 w os)).abs (restOf z5 Gk Uh (Pos.mk 0 0 0 0) hdB)=some (⟨hfin w.params,Array.mk [],Drawn.mk 0 0 0 0,2371,os⟩:Shared):=.trans (by kernel_rfl) (piece_app (segRun_of (ahc w os)) (piece_app (segRun_of (ahb w os)) (piece_app (segRun_of (aha w os)) (piece_app (segRun_of (Xa w os)) (piece_app (segRun_of (W_ w os)) (piece_app (segRun_of (W8 w os)) (piece_app (segRun_of (W7 w os)) (piece_app (segRun_of (W6 w os)) (piece_app (segRun_of (W5 w os)) (piece_app (segRun_of (W4 w os)) (piece_app (segRun_of (W3 w os)) (piece_app (segRun_of (W2 w os)) (piece_app (segRun_of (W0 w os)) (piece_app (segRun_of (WZ w os)) (piece_app (segRun_of (WY w os)) (piece_app (segRun_of (WX w os)) (piece_app (segRun_of (NB w os)) (piece_app (segRun_of (NA w os)) (piece_app (segRun_of (Nz w os)) (piece_app (segRun_of (Ny w os)) (piece_app (segRun_of (Nw w os)) (piece_nil (Xb w os)))))))))))))))))))))))
theorem WT (w:World) (os:OsState):topRun treeTable pg w 11 hdn 12277 (⟨boot_heap w.params,Array.mk [],boot_drawn,boot_toks,os⟩:Shared) (topStub pg)=some (⟨hfin w.params,Array.mk [],Drawn.mk 0 0 0 0,2371,os⟩:Shared):=go_top (n:=12) (N:=12265) (WU w os) (piece_block (n:=1) (N:=12264) (Xc w os) (Nu w os))
theorem Nv: ∀w:World,(fencedOpening treeTable pg w 24608).map (fun s=>(s.heap,s.gens,s.drawn,s.toks))=some (boot_heap w.params,Array.mk [],boot_drawn,boot_toks):=boot_open rfl (by decide) (fun s=>rfl)
theorem Nt: ∀w:World,((boot_heap w.params).isNs mainGlobals&&(Array.mk []:Array GenState).size == 0,(boot_heap w.params).objs.size,(boot_heap w.params).nsMap mainGlobals "__annotations__")=(true,11,hdn):=fun w=>by kernel_rfl
theorem agY (w:World) (os:OsState):(staticsOk (importedModules pg.main.body) (boot_heap w.params) (hfin w.params)&&namesBound pg (hfin w.params)&&gensDone (⟨hfin w.params,Array.mk [],Drawn.mk 0 0 0 0,2371,os⟩:Shared)&&laidKept (boot_heap w.params) (hfin w.params))=true:=by kernel_rfl
theorem jB {α β a:Type} {f:α->a} {g:β->a} {l:List α} {m:List β} (k n:Nat) (h:((l.drop k).take n).map f=((m.drop k).take n).map g) (t:(l.drop (k+n)).map f=(m.drop (k+n)).map g):(l.drop k).map f=(m.drop k).map g:=by
 rw[<-List.take_append_drop n (l.drop k),<-List.take_append_drop n (m.drop k),List.map_append,List.map_append,h,List.drop_drop,List.drop_drop,t]
abbrev tE (w:World) (os:OsState):Shared:=(⟨hfin w.params,Array.mk [],Drawn.mk 0 0 0 0,2371,os⟩:Shared)
abbrev ND (w:World) (os:OsState):=openSeen bU ["signs_of_pieces","signs_of_desk"] (importedModules pg.main.body) (fun s=>xlAt bU [] s&&recOk Challenge.rw_slowroad_k84_desk_newly_told.row.records s) true (tE w os)
abbrev hd_E:List Str:=["signs_of_pieces","signs_of_desk","KINDS","UNNUMBERED","BEGIN","END","SIDES","SIDE_WORDS","WHOLE_WORDS","SIDED_WORDS"]
theorem hd_lw:looseW bU ["signs_of_pieces","signs_of_desk"]=hd_E:=by kernel_rfl
theorem agB (w:World) (os:OsState):(tE w os).heap.keysOk hd_E ((PyProof.Rows.recsOf bU).map (·.name)) ((PyProof.Rows.litsOf bU).map (·.1)) ((PyProof.Rows.clssOf bU hd_E).map (·.name))=true:=by kernel_rfl
theorem agA (w:World) (os:OsState):(tE w os).heap.accountedOkI (importedModules pg.main.body)=true:=by kernel_rfl
theorem agz (w:World) (os:OsState):(tE w os).heap.isNs mainGlobals=true:=by kernel_rfl
theorem agy (w:World) (os:OsState):(tE w os).heap.isNs builtinsNs=true:=by kernel_rfl
theorem agx (w:World) (os:OsState):PyProof.Rows.tablesOk bU (tE w os).heap=true:=by kernel_rfl
theorem agw (w:World) (os:OsState):(fun s=>xlAt bU [] s&&recOk Challenge.rw_slowroad_k84_desk_newly_told.row.records s) (tE w os)=true:=by kernel_rfl
abbrev k8:=PyProof.Rows.plainsOf bU hd_E
theorem agV (w:World) (os:OsState):((k8.drop 0).take 3).map (fun c=>(tE w os).heap.plainShapeAt c.withCmp)=((k8.drop 0).take 3).map (fun c=>some c.withCmp.plainShape):=by kernel_rfl
theorem agS (w:World) (os:OsState):((k8.drop 3).take 3).map (fun c=>(tE w os).heap.plainShapeAt c.withCmp)=((k8.drop 3).take 3).map (fun c=>some c.withCmp.plainShape):=by kernel_rfl
theorem agP (w:World) (os:OsState):((k8.drop 6).take 3).map (fun c=>(tE w os).heap.plainShapeAt c.withCmp)=((k8.drop 6).take 3).map (fun c=>some c.withCmp.plainShape):=by kernel_rfl
theorem agM (w:World) (os:OsState):((k8.drop 9).take 3).map (fun c=>(tE w os).heap.plainShapeAt c.withCmp)=((k8.drop 9).take 3).map (fun c=>some c.withCmp.plainShape):=by kernel_rfl
theorem agL (w:World) (os:OsState):(k8.drop 12).map (fun c=>(tE w os).heap.plainShapeAt c.withCmp)=(k8.drop 12).map (fun c=>some c.withCmp.plainShape):=by kernel_rfl
theorem agK (w:World) (os:OsState):(ND w os).1=PyProof.Rows.expectedOf bU:=by kernel_rfl
theorem agJ (w:World) (os:OsState):(ND w os).2.1=bltViewBooted:=by kernel_rfl
theorem hd_an {a b:Bool} (x:a=true) (y:b=true):(a&&b)=true:=by rw[x,y];rfl
theorem agI (w:World) (os:OsState):(ND w os).2.2.1=true:=.trans (by kernel_rfl) (hd_an (hd_an (hd_an (hd_an (hd_an (hd_an ((congrArg (fun l=>(tE w os).heap.keysOk l ((PyProof.Rows.recsOf bU).map (·.name)) ((PyProof.Rows.litsOf bU).map (·.1)) ((PyProof.Rows.clssOf bU l).map (·.name))=true) hd_lw).mpr (agB w os)) (agA w os)) (agz w os)) (agy w os)) (agx w os)) (agw w os)) (.refl true))
theorem agH (w:World) (os:OsState):(ND w os).2.2.2.1=true:=by kernel_rfl
theorem agG (w:World) (os:OsState):(ND w os).2.2.2.2.1=pinGoodD (PyProof.Rows.drecsOf bU):=by kernel_rfl
theorem hd_pp (w:World) (os:OsState):k8.map (fun c=>(tE w os).heap.plainShapeAt c.withCmp)=k8.map (fun c=>some c.withCmp.plainShape):=.trans (by kernel_rfl) (.trans (jB 0 3 (agV w os) (jB 3 3 (agS w os) (jB 6 3 (agP w os) (jB 9 3 (agM w os) (agL w os))))) (by kernel_rfl))
theorem agF (w:World) (os:OsState):(ND w os).2.2.2.2.2.1=PyProof.Rows.plainGoodE bU (looseW bU ["signs_of_pieces","signs_of_desk"]):=.trans (by kernel_rfl) (.trans ((congrArg (fun l=>(PyProof.Rows.plainsOf bU l).map (fun c=>(tE w os).heap.plainShapeAt c.withCmp)=(PyProof.Rows.plainsOf bU l).map (fun c=>some c.withCmp.plainShape)) hd_lw).mpr (hd_pp w os)) (by kernel_rfl))
theorem agE (w:World) (os:OsState):(ND w os).2.2.2.2.2.2.1=PyProof.Rows.plainGoodD bU ["signs_of_pieces","signs_of_desk"]:=by kernel_rfl
theorem agD (w:World) (os:OsState):(ND w os).2.2.2.2.2.2.2.1=wideGood bU:=by kernel_rfl
theorem agC (w:World) (os:OsState):(ND w os).2.2.2.2.2.2.2.2=clsGoodW bU ["signs_of_pieces","signs_of_desk"]:=by kernel_rfl
theorem hd_pr {α β:Type} {p:α×β} {a:α} {b:β} (h:p.1=a) (t:p.2=b):p=(a,b):=by cases p;cases h;cases t;rfl
theorem agX (w:World) (os:OsState):openSeen bU ["signs_of_pieces","signs_of_desk"] (importedModules pg.main.body) (fun s=>xlAt bU [] s&&recOk Challenge.rw_slowroad_k84_desk_newly_told.row.records s) true (⟨hfin w.params,Array.mk [],Drawn.mk 0 0 0 0,2371,os⟩:Shared)=openGood bU ["signs_of_pieces","signs_of_desk"]:=.trans (by kernel_rfl) (.trans (hd_pr (agK w os) (hd_pr (agJ w os) (hd_pr (agI w os) (hd_pr (agH w os) (hd_pr (agG w os) (hd_pr (agF w os) (hd_pr (agE w os) (hd_pr (agD w os) (agC w os))))))))) (by kernel_rfl))
theorem ag9 (w:World) (os:OsState):((jC.drop 0).take 110).map (tE w os).heap.get?=(((AK w.params).drop 0).take 110).map (fun p=>some p.2):=by kernel_rfl
theorem ag8 (w:World) (os:OsState):((jC.drop 110).take 110).map (tE w os).heap.get?=(((AK w.params).drop 110).take 110).map (fun p=>some p.2):=by kernel_rfl
theorem ag7 (w:World) (os:OsState):((jC.drop 220).take 110).map (tE w os).heap.get?=(((AK w.params).drop 220).take 110).map (fun p=>some p.2):=by kernel_rfl
theorem ag6 (w:World) (os:OsState):((jC.drop 330).take 110).map (tE w os).heap.get?=(((AK w.params).drop 330).take 110).map (fun p=>some p.2):=by kernel_rfl
theorem ag5 (w:World) (os:OsState):((jC.drop 440).take 110).map (tE w os).heap.get?=(((AK w.params).drop 440).take 110).map (fun p=>some p.2):=by kernel_rfl
theorem ag4 (w:World) (os:OsState):((jC.drop 550).take 110).map (tE w os).heap.get?=(((AK w.params).drop 550).take 110).map (fun p=>some p.2):=by kernel_rfl
theorem ag3 (w:World) (os:OsState):((jC.drop 660).take 110).map (tE w os).heap.get?=(((AK w.params).drop 660).take 110).map (fun p=>some p.2):=by kernel_rfl
theorem ag2 (w:World) (os:OsState):((jC.drop 770).take 110).map (tE w os).heap.get?=(((AK w.params).drop 770).take 110).map (fun p=>some p.2):=by kernel_rfl
theorem ag1 (w:World) (os:OsState):((jC.drop 880).take 110).map (tE w os).heap.get?=(((AK w.params).drop 880).take 110).map (fun p=>some p.2):=by kernel_rfl
theorem ag0 (w:World) (os:OsState):((jC.drop 990).take 110).map (tE w os).heap.get?=(((AK w.params).drop 990).take 110).map (fun p=>some p.2):=by kernel_rfl
theorem agZ (w:World) (os:OsState):(jC.drop 1100).map (tE w os).heap.get?=((AK w.params).drop 1100).map (fun p=>some p.2):=by kernel_rfl
theorem agW (w:World) (os:OsState):(kHook AK jC vC).obs (⟨hfin w.params,Array.mk [],Drawn.mk 0 0 0 0,2371,os⟩:Shared)=(kHook AK jC vC).val w:=.trans (by kernel_rfl) (.trans (jB 0 110 (ag9 w os) (jB 110 110 (ag8 w os) (jB 220 110 (ag7 w os) (jB 330 110 (ag6 w os) (jB 440 110 (ag5 w os) (jB 550 110 (ag4 w os) (jB 660 110 (ag3 w os) (jB 770 110 (ag2 w os) (jB 880 110 (ag1 w os) (jB 990 110 (ag0 w os) (agZ w os))))))))))) (by kernel_rfl))
theorem ag_: ∀w:World,Option.map (fun s=>(openSeen bU ["signs_of_pieces","signs_of_desk"] (importedModules pg.main.body) (fun s=>xlAt bU [] s&&recOk Challenge.rw_slowroad_k84_desk_newly_told.row.records s) true s,(kHook AK jC vC).obs s)) (openEnds treeTable pg w 24608)=some (openGood bU ["signs_of_pieces","signs_of_desk"],(kHook AK jC vC).val w):=LeftO.of_pieces (H₀:=boot_heap) (H₁:=hfin) Nv Nt WT (by decide) (fun w=>funext fun os=>looks_pair (agY w os) (looks_pair (agX w os) (agW w os)))
end
theorem pQ:b7 v l h=true↔l<=v/\v<=h:=by
 unfold b7;rw[Bool.and_eq_true,decide_eq_true_eq,decide_eq_true_eq]
theorem yZ (c:l<=v/\v<=h):b7 v l h=true:=pQ.mpr c
theorem Dg (c: ¬(l<=v/\v<=h)):b7 v l h=false:=by
 cases e:b7 v l h
 ·rfl
 ·exact absurd (pQ.mp e) c
noncomputable def lb (r l:Int):Int:=if r=1 then 2+l / 2 else 2*r+l - 1
noncomputable def oZ (o t g:Int):Int:=if lb o g<lb t g then lb t g else lb o g
def good (r o t g f l:Int):Prop:=(2<=r/\r<=64)/\((1<=o/\o<=16)/\(1<=t/\t<=16))/\(1<=g/\g<=32)/\(2<=l/\l<=64)/\(2<=f/\f<=l)
def Cq:Sp:=fun vs H Q E=>match vs with
 | [.int r,.int l]=>Q (.int (lb r l)) H
 |_=>False
def p8:Sp:=fun vs H Q E=>match vs with
 | [.ref p]=> ∃o t,H p=some (.tup [.int o,.int t])/\∀H',a7 H H'->Q (.bl (decide ((1<=o/\o<=16)/\(1<=t/\t<=16)))) H'
 |_=>False
def p7:Sp:=fun vs H Q E=>match vs with
 | [.int f,.int l]=>Q (.bl (decide ((2<=l/\l<=64)/\2<=f/\f<=l))) H
 |_=>False
def jE (aA:Addr):Sp:=fun vs H Q E=>match vs with
 | [.ref e,.int l]=>H e=some (.ext (xX e aA none))/\∀d,H d=none->Q .non (upd (upd H d (.xd [("least",.int l)])) e (.ext (xX e aA (some d))))
 |_=>False
def kz (aH az aA:Addr):Sp:=fun vs H Q E=>match vs with
 | [.ref x,.int r,.ref p,.int g,.int f,.int l]=> ∃o t dx,H p=some (.tup [.int o,.int t])/\H x=some (.ins aH dx [])/\(¬good r o t g f l->∀H',a7 H H'->E (.ref az) none H')/\(good r o t g f l->r<oZ o t g->∀H' d,a7 H H'->H' d=some (.xd [("least",.int (oZ o t g))])->E (.ref aA) (some d) H')/\(good r o t g f l->¬r<oZ o t g->∀H',cj x H H'->H' x=some (.ins aH dx (js (.int r) (.ref p) (.int g) (.int f) (.int l)))->Q .non H')
 |_=>False
def kI (ay:Addr):Sp:=fun vs H Q E=>match vs with
 | [.ref p,.int m]=> ∃dx,H p=some (.ins ay dx [])/\Q .non (upd H p (.ins ay dx (su (.int m) (.int (MeterM.mn 2 m)) (.int m) (.int 0))))
 |_=>False
def ahs (aE:Addr) (H:Hp) (p dx:Addr) (L w a A b B:Int):Prop:= ∃d i,H p=some (.ins aE dx (qt (.int L) (.ref d) (.ref i) (.int w)))/\H d=some (.tup [.int a,.int A])/\H i=some (.tup [.int b,.int B])
def lh (aE:Addr):Sp:=fun vs H Q E=>match vs with
 | [.ref p,.int f,.int l]=> ∃dx,H p=some (.ins aE dx [])/\Q .non (upd H p (.ins aE dx (qt (.int l) .non .non (.int f))))
 |_=>False
noncomputable abbrev Wg:=Option (Int×Int×Int×Int)
def WS (C:Addr) (H:Hp) (p dx:Addr) (L w:Int) (g:Wg) (k:Nat):Prop:=2<=L/\(2<=w/\w<=L)/\((k=0/\g=none/\H p=some (.ins C dx (qt (V.int L) V.non V.non (V.int w))))\/∃n P S D a A b B,g=some (a,A,b,B)/\n+1=k/\WaysM.St n P S D a A b B/\ahs C H p dx L w a A b B)
theorem WS.ins (h:WS C H p dx L w g k): ∃s sp,H p=some (.ins C dx (qt (V.int L) s sp (V.int w))):=by
 obtain⟨_,_,⟨_,_,d⟩|⟨n,P,S,D,a,A,b,B,_,_,_,⟨j,m,i,_⟩⟩⟩:=h
 ·exact⟨_,_,d⟩
 ·exact⟨_,_,i⟩
theorem WS.keep (h:WS C H p dx L w g k) (d: ∀o,H p=some o->H' p=some o) (ht: ∀t l,H t=some (.tup l)->H' t=some (.tup l)):WS C H' p dx L w g k:=by
 obtain⟨h0,h1,⟨x,s,v⟩|⟨n,P,S,D,a,A,b,B,b0,z,E,⟨i,m,y,j,u⟩⟩⟩:=h
 ·exact⟨h0,h1,.inl ⟨x,s,d _ v⟩⟩
 ·exact⟨h0,h1,.inr ⟨n,P,S,D,a,A,b,B,b0,z,E,⟨i,m,d _ y,ht _ _ j,ht _ _ u⟩⟩⟩
def MS (C:Addr) (H:Hp) (p dx:Addr) (mo wi kn co:Int):Prop:=H p=some (.ins C dx (su (.int mo) (.int wi) (.int kn) (.int co)))/\MeterM.Inb mo (wi,co)
structure Ad where
 dx:Addr
 pw:Addr
 pm:Addr
 pt:Addr
 pk:Addr
 pf:Addr
 pa:Addr
 dw:Addr
 dm:Addr
structure Sd where
 R:Int
 b:Int
 t:Int
 e:Int
 clk:V
 hur:Bool
 T:List V
 Kn:List (Key×V)
 Fi:List (Key×V)
 Ag:List (Key×V)
 L:Int
 w:Int
 k:Nat
 wi:Int
 g:Wg
 mo:Int
 kn:Int
 co:Int
structure AH (CS CW CM:Addr) (H:Hp) (x:Addr) (A:Ad) (z:Sd):Prop where
 hx:H x=some (.ins CS A.dx (ki (.int z.R) (.ref A.pw) (.ref A.pm) (.ref A.pt) (.int z.b) (.int z.t) (.int z.e) z.clk (.bl z.hur) (.ref A.pk) (.ref A.pf) (.ref A.pa)))
 ht:H A.pt=some (.lst z.T)
 hk:H A.pk=some (.dK z.Kn)
 hf:H A.pf=some (.dK z.Fi)
 ha:H A.pa=some (.dK z.Ag)
 ws:WS CW H A.pw A.dw z.L z.w z.g z.k
 ms:MS CM H A.pm A.dm z.mo z.wi z.kn z.co
 kf:A.pk≠A.pf
 ka:A.pk≠A.pa
 fa:A.pf≠A.pa
 xw:x≠A.pw
 xm:x≠A.pm
 wm:A.pw≠A.pm
theorem AH.same (h:AH CS CW CM H x A z) (e:a7 H H'):AH CS CW CM H' x A z:=by
 obtain⟨d,a⟩:=h.ms;exact⟨e _ _ h.hx,e _ _ h.ht,e _ _ h.hk,e _ _ h.hf,e _ _ h.ha,h.ws.keep (fun o q=>e _ _ q) (fun t l q=>e _ _ q),⟨e _ _ d,a⟩,h.kf,h.ka,h.fa,h.xw,h.xm,h.wm⟩
def nj (ag aE ay:Addr):Sp:=fun vs H Q E=>match vs with
 | [.ref x]=> ∃A z,AH ag aE ay H x A z/\Q (.int z.T.length) H
 |_=>False
def qL (ag aE ay:Addr):Sp:=fun vs H Q E=>match vs with
 | [.ref x,.int p]=> ∃A z v,AH ag aE ay H x A z/\x_ z.T p=some v/\Q v H
 |_=>False
theorem g_ (b:cj x H H') (n:x≠p) (h:H' p=none):H p=none:=by
 cases q:H p with
 |none=>rfl
 |some o=>rw[b _ _ q n.symm] at h;cases h
def jX (ag aE ay:Addr):Sp:=fun vs H Q E=>match vs with
 | [.ref x,.int r,.int f,.int l,.int m]=>(2<=f/\f<=l/\1<=m)/\∃dx,H x=some (.ins ag dx [])/\∀A H',cj x H H'->(∀b,b∈[A.pw,A.pm,A.pt,A.pk,A.pf,A.pa]->H b=none)->AH ag aE ay H' x A ⟨r,0,0,1,.non,false,[],[],[],[],l,f,0,MeterM.mn 2 m,none,m,m,0⟩->Q .non H'
 |_=>False
structure Tk where
 R:Int
 M:Int
 g:Int
 o:Int
 D:List (Key×V)
structure Bw (C:Addr) (H:Hp) (x dx pk:Addr) (z:Tk):Prop where
 hx:H x=some (.ins C dx (vO (.int z.R) (.int z.M) (.int z.g) (.int z.o) (.ref pk)))
 hD:H pk=some (.dK z.D)
theorem Bw.n1 (h:Bw C H x dx pk z):pk≠x:=gC h.hD h.hx (by simp)
theorem Bw.same (h:Bw C H x dx pk z) (e:a7 H H'):Bw C H' x dx pk z:=⟨e _ _ h.hx,e _ _ h.hD⟩
def kE (aB:Addr):Sp:=fun vs H Q E=>match vs with
 | [.ref x,.int r,.int m]=> ∃dx,H x=some (.ins aB dx [])/\∀pk H',H pk=none->cj x H H'->Bw aB H' x dx pk ⟨r,m,0,0,[]⟩->Q .non H'
 |_=>False
noncomputable def tbl (aI ar aJ aK ao ak aq:Addr):List (Addr×Str):=[(aI,"shut"),(ar,"calling"),(aJ,"open"),(aK,"left"),(ao,"leaving"),(ak,"waiting"),(aq,"closing")]
def XD (a:List (Addr×Str)) (H:Hp) (x:Addr) (nm:Str):Prop:= ∃C dx,H x=some (.ins C dx [])/\(C,nm)∈a
theorem tD {b:Prop} [Decidable p] (h1:p->a) (d: ¬p->b):if p then a else b:=by split;exact h1 ‹_›;exact d ‹_›
theorem dropxl (S:a7 H H1) (he:H1 e=none) (hd:upd H1 e o d=none):a7 H (lg (upd (upd (upd H1 e o) d (.xd l)) e (.ext (xX e C (some d)))) e)/\lg (upd (upd (upd H1 e o) d (.xd l)) e (.ext (xX e C (some d)))) e d=some (.xd l):=by
 have nd:d≠e:=fun z=>by rw[z,aa] at hd;cases hd
 refine⟨fun b u hb=>?_,?_⟩
 ·
  have h1:=S b u hb;have nb:b≠e:=ax h1 he;rw[jR nb,ah nb,ah (fun z=>?_),ah nb];exact h1;rw[z] at h1;rw[ah nd] at hd;rw[h1] at hd;cases hd
 ·rw[jR nd,ah nd,aa]
def uS:Sp:=fun vs H Q E=>match vs with
 | [.ref x]=>Q (.str "shut") H
 |_=>False
def qO:Sp:=fun vs H Q E=>match vs with
 | [.ref x]=>Q (.str "calling") H
 |_=>False
def uT:Sp:=fun vs H Q E=>match vs with
 | [.ref x]=>Q (.str "open") H
 |_=>False
def uU:Sp:=fun vs H Q E=>match vs with
 | [.ref x]=>Q (.str "left") H
 |_=>False
def qM:Sp:=fun vs H Q E=>match vs with
 | [.ref x]=>Q (.str "leaving") H
 |_=>False
def qK:Sp:=fun vs H Q E=>match vs with
 | [.ref x]=>Q (.str "waiting") H
 |_=>False
def qN:Sp:=fun vs H Q E=>match vs with
 | [.ref x]=>Q (.str "closing") H
 |_=>False
def wo (aI ar aJ aK ao ak aq:Addr):Sp:=fun vs H Q E=>match vs with
 | [.ref x]=> ∃nm,XD (tbl aI ar aJ aK ao ak aq) H x nm/\Q (.str nm) H
 |_=>False
def Kp (S:List Addr) (H H':Hp):Prop:= ∀b o,H b=some o->b ∉ S->H' b=some o
theorem Kp.of (h:a7 H H'):Kp S H H':=fun b o e _=>h b o e
theorem Kp.one {p:Addr} {H:Hp} {o:HO}:Kp [p] H (upd H p o):=fun b u e n=>by rw[ah (fun z=>n (by rw[z];exact List.mem_singleton.mpr rfl))];exact e
def Imm (o:HO):Prop:=(∃l,o = .tup l)\/(∃C d,o = .ins C d [])\/∃u v,o = .frz u v
theorem Kp.but (h:cj p H H') (m:p∈S):Kp S H H':=fun b u e n=>h b u e fun z=>n (by rw[z];exact m)
structure HAd where
 dx:Addr
 tk:Addr
 dt:Addr
 kd:Addr
 sd:Addr
 S:Ad
 st:Addr
 pe:Addr
structure Hn where
 side:Int
 R:Int
 tk:Tk
 sd:Sd
 nm:Str
 due:Bool
 ends : List Int
noncomputable def foot (x:Addr) (A:HAd):List Addr:=[x,A.tk,A.kd,A.sd,A.S.pw,A.S.pm,A.S.pt,A.S.pk,A.S.pf,A.S.pa,A.pe]
structure k7 (CH CT CS CW CM:Addr) (tb:List (Addr×Str)) (H:Hp) (x:Addr) (A:HAd) (z:Hn):Prop where
 hx:H x=some (.ins CH A.dx (mZ (.int z.side) (.int z.R) (.ref A.tk) (.ref A.sd) (.ref A.st) (.bl z.due) (.ref A.pe)))
 tk:Bw CT H A.tk A.dt A.kd z.tk
 sd:AH CS CW CM H A.sd A.S z.sd
 st:XD tb H A.st z.nm
 he:H A.pe=some (.lst (z.ends.map V.int))
 nd:(foot x A).Nodup
section
theorem AH.kp (h:AH CS CW CM H x A z) (k:Kp S H H') (d: ∀b∈[x,A.pw,A.pm,A.pt,A.pk,A.pf,A.pa],b ∉ S) (tp: ∀t l,H t=some (.tup l)->t ∉ S):AH CS CW CM H' x A z:=by
 simp only[List.mem_cons,List.not_mem_nil,or_false] at d;obtain⟨i,a⟩:=h.ms;exact⟨k _ _ h.hx (d _ (by simp)),k _ _ h.ht (d _ (by simp)),k _ _ h.hk (d _ (by simp)),k _ _ h.hf (d _ (by simp)),k _ _ h.ha (d _ (by simp)),h.ws.keep (fun o q=>k _ _ q (d _ (by simp))) (fun t l q=>k _ _ q (tp t l q)),⟨k _ _ i (d _ (by simp)),a⟩,h.kf,h.ka,h.fa,h.xw,h.xm,h.wm⟩
theorem k7.kp (h:k7 CH CT CS CW CM tb H x A z) (k:Kp S H H') (d: ∀b∈foot x A,b ∉ S) (im: ∀b o,H b=some o->Imm o->b ∉ S):k7 CH CT CS CW CM tb H' x A z:=by
 obtain⟨C,dd,e,hm⟩:=h.st;simp only[foot,List.mem_cons,List.not_mem_nil,or_false] at d;exact⟨k _ _ h.hx (d _ (by simp)),⟨k _ _ h.tk.hx (d _ (by simp)),k _ _ h.tk.hD (d _ (by simp))⟩,h.sd.kp k (fun b hb=>d _ (by simp only[List.mem_cons,List.not_mem_nil,or_false] at hb;rcases hb with q|q|q|q|q|q|q<;>subst q<;>simp)) (fun t l q=>im _ _ q (.inl ⟨l,rfl⟩)),
  ⟨C,dd,k _ _ e (im _ _ e (.inr (.inl ⟨C,dd,rfl⟩))),hm⟩,k _ _ h.he (d _ (by simp)),h.nd⟩
theorem k7.same (h:k7 CH CT CS CW CM tb H x A z) (s:a7 H H'):k7 CH CT CS CW CM tb H' x A z:=h.kp (S:=[]) (Kp.of s) (fun _ _=>List.not_mem_nil) (fun _ _ _ _=>List.not_mem_nil)
end
theorem CO: ∀{xs:List α} {a:List β},Paired R xs a->xs.length=a.length
 |_,_,.nil=>rfl
 |_,_,.cons _ t=>by simp[CO t]
theorem CP: ∀{xs:List α} {i:List β} {a:List α} {d:List β},Paired R xs i->Paired R a d->Paired R (xs++a) (i++d)
 |_,_,_,_,.nil,q=>q
 |_,_,_,_,.cons r t,q=> .cons r (CP t q)
theorem EK: ∀{xs:List α} {a:List β} {i:Nat} {x:α},Paired R xs a->xs[i]?=some x->∃y,a[i]?=some y/\R x y
 |_,_,_,_,.nil,e=>by simp at e
 |_,_,0,_,.cons r _,e=>by simp at e;subst e;exact⟨_,rfl,r⟩
 |_,_,i+1,_,.cons _ t,e=>by simpa using EK (i:=i) t (by simpa using e)
noncomputable def xM (z:Str):Bool:=decide (1<=z.length)&&decide (z.length<=60)&&(jH z).all XH
noncomputable def kR (side R own other f l:Int):Hn:=⟨side,R,⟨R,own,0,0,[]⟩,⟨R,0,0,1,.non,false,[],[],[],[],l,f,0,MeterM.mn 2 other,none,other,other,0⟩,"shut",false,[]⟩
def Bv (a:Addr) (H:Hp) (x:Addr) (r o t g f l:Int):Prop:= ∃dx p,H x=some (.ins a dx (js (.int r) (.ref p) (.int g) (.int f) (.int l)))/\H p=some (.tup [.int o,.int t])
theorem Bv.same (h:Bv CT H x r o t g f l) (s:a7 H H'):Bv CT H' x r o t g f l:=by
 obtain⟨dx,p,h1,a⟩:=h;exact⟨dx,p,s _ _ h1,s _ _ a⟩
def p0:Sp:=fun vs H Q E=>match vs with
 | [.str z]=>z.length<=1000/\∀H',a7 H H'->Q (.bl (xM z)) H'
 | [.non]=>Q (.bl false) H
 | [.int i]=>Q (.bl false) H
 |_=>False
def lx (aC aB ag aE ay aI ar aJ aK ao ak aq aH:Addr):Sp:=fun vs H Q E=>match vs with
 | [.ref x,.int side,.ref tm]=> ∃dx r o t g f l,H x=some (.ins aC dx [])/\Bv aH H tm r o t g f l/\good r o t g f l/\(side=0\/side=1)/\∀A H',cj x H H'->(∀b,b∈(foot x A).tail->H b=none)->k7 aC aB ag aE ay (tbl aI ar aJ aK ao ak aq) H' x A (kR side r (if side=0 then o else t) (if side=0 then t else o) f l)->Q .non H'
 |_=>False
def p_ (aC aB ag aE ay aI ar aJ aK ao ak aq:Addr):Sp:=fun vs H Q E=>match vs with
 | [.ref x]=> ∃A z,k7 aC aB ag aE ay (tbl aI ar aJ aK ao ak aq) H x A z/\Q (.str z.nm) H
 |_=>False
def oQ (aC aB ag aE ay aI ar aJ aK ao ak aq:Addr):Sp:=fun vs H Q E=>match vs with
 | [.ref x]=> ∃A z,k7 aC aB ag aE ay (tbl aI ar aJ aK ao ak aq) H x A z/\Q (.bl (decide (z.sd.b=z.sd.t)&&decide (z.sd.t=z.sd.T.length) && !z.due)) H
 |_=>False
def p6:Sp:=fun vs H Q E=>match vs with
 | [.int v,.int l,.int h]=>Q (.bl (b7 v l h)) H
 | [.non,.int l,.int h]=>Q (.bl false) H
 | [.str z,.int l,.int h]=>Q (.bl false) H
 |_=>False
def jG (av:Addr):Sp:=fun vs H Q E=>match vs with
 | [.ref e,v]=>H e=some (.ext (xX e av none))/\∀d,H d=none->Q .non (upd (upd H d (.xd [("at",v)])) e (.ext (xX e av (some d))))
 |_=>False
def Cj (H:Hp) (c:Addr) (d p r:Int):Prop:=H c=some (.tup [.int d,.int p,.int r])
noncomputable def xZ (d p r lag:Int):Bool:=b7 d 1 lag&&b7 p 0 66&&b7 r 0 255
def tU:Sp:=fun vs H Q E=>match vs with
 | [.ref c,.int lag]=> ∃d p r,Cj H c d p r/\Q (.bl (xZ d p r lag)) H
 |_=>False
noncomputable abbrev Cp:=Int×Int×Int
def og (H:Hp) (x:Addr) (a:List Cp):Prop:= ∃cs:List Addr,H x=some (.lst (cs.map V.ref))/\Paired (fun c (d:Cp)=>Cj H c d.1 d.2.1 d.2.2) cs a/\a.length<=1000
noncomputable def oE (lag:Int) (a:List Cp):Bool:=decide (a.length<=3)&&a.all fun d=>xZ d.1 d.2.1 d.2.2 lag
def wa (H:Hp) (x:Addr) (a:List (List Cp)):Prop:= ∃xs:List Addr,H x=some (.lst (xs.map V.ref))/\Paired (og H) xs a/\a.length<=1000
def tT:Sp:=fun vs H Q E=>match vs with
 | [.ref x,.int lag]=> ∃a,og H x a/\∀H',a7 H H'->Q (.bl (oE lag a)) H'
 |_=>False
def oI (av:Addr):Sp:=fun vs H Q E=>match vs with
 | [.ref x,.int lag]=> ∃a,wa H x a/\(b7 lag 1 60=true->a.length<=60->(∀m∈a,oE lag m=true)->∀H',a7 H H'->Q .non H')/\((b7 lag 1 60=false\/60<a.length)->∀H' d,a7 H H'->H' d=some (.xd [("at",.non)])->E (.ref av) (some d) H')/\(b7 lag 1 60=true->a.length<=60->∀(i:Nat) m,a[i]?=some m->oE lag m=false->(∀j<i,∀m,a[j]?=some m->oE lag m=true)->∀H' d,a7 H H'->H' d=some (.xd [("at",.int i)])->E (.ref av) (some d) H')
 |_=>False
theorem ji {xs:List α} {a:List β} (p:Paired R xs a):xs.length=a.length:=by
 induction p with
 |nil=>rfl
 |cons _ _ d=>simp[d]
theorem qe {a:List β} {i:Nat} {x:α} (p:Paired R xs a) (h:xs[i]?=some x): ∃y,a[i]?=some y/\R x y:=by
 induction p generalizing i with
 |nil=>simp at h
 |cons r _ d=>
  cases i with
  |zero=>simp at h;subst h;exact⟨_,rfl,r⟩
  |succ i=>simpa using d (by simpa using h)
theorem bq {xs:List α} {a:List β} (p:Paired R xs a) (h: ∀x y,R x y->R' x y):Paired R' xs a:=by
 induction p with
 |nil=>exact .nil
 |cons r _ d=>exact .cons (h _ _ r) d
theorem og.same (h:og H x ds) (s:a7 H H'):og H' x ds:=by
 obtain⟨cs,h1,i,a⟩:=h;exact⟨cs,s _ _ h1,bq i fun c d q=>s _ _ q,a⟩
theorem wa.same (h:wa H x dss) (s:a7 H H'):wa H' x dss:=by
 obtain⟨xs,h1,i,a⟩:=h;exact⟨xs,s _ _ h1,bq i fun c d q=>q.same s,a⟩
def NS (d H:Hp) (p:Addr) (a:List (List Cp)):Prop:=d p=none/\∃xs:List Addr,H p=some (.lst (xs.map V.ref))/\Paired (fun x i=>d x=none/\og H x i) xs a/\a.length<=1000
def wj:Sp:=fun vs H Q E=>match vs with
 | [.ref x]=> ∃a,wa H x a/\∀p H',a7 H H'->NS H H' p a->Q (.ref p) H'
 |_=>False
noncomputable abbrev Cm:=Int×Int×Int×Int
def CmT (H:Hp) (c:Addr) (m:Cm):Prop:=H c=some (.tup [.int m.1,.int m.2.1,.int m.2.2.1,.int m.2.2.2])
theorem DR {x:α} {y:β} (p:Paired R xs ys) (r:R x y):Paired R (xs++ [x]) (ys++ [y]):=by
 induction p with
 |nil=>exact .cons r .nil
 |cons q _ a=>exact .cons q a
def alN (H:Hp) (d pc:Addr) (a:List (List Cp)):Prop:= ∃xs:List Addr,H d=some (.lst (xs.map V.ref))/\Paired (fun x i=>x≠pc/\og H x i) xs a/\a.length<=1000
structure pz (aG:Addr) (H:Hp) (r:Addr) (dx pd pc:Addr) (dss:List (List Cp)) (sn:Int) (ms:List Cm):Prop where
 hr:H r=some (.ins aG dx (oC (.ref pd) (.int sn) (.ref pc)))
 hd:alN H pd pc dss
 hc: ∃cs:List Addr,H pc=some (.lst (cs.map V.ref))/\Paired (CmT H) cs ms
 ne:pd≠pc
def lu (aG av:Addr):Sp:=fun vs H Q E=>match vs with
 | [.ref r,.ref x,.int lag]=> ∃a dx,wa H x a/\H r=some (.ins aG dx [])/\(b7 lag 1 60=true->a.length<=60->(∀m∈a,oE lag m=true)->∀H' n pc,cj r H H'->NS H H' n a->H pc=none->pz aG H' r dx n pc a 0 []->Q .non H')/\((b7 lag 1 60=false\/60<a.length)->∀H' d,a7 H H'->H' d=some (.xd [("at",.non)])->E (.ref av) (some d) H')/\(b7 lag 1 60=true->a.length<=60->∀(i:Nat) m,a[i]?=some m->oE lag m=false->(∀j<i,∀m,a[j]?=some m->oE lag m=true)->∀H' d,a7 H H'->H' d=some (.xd [("at",.int i)])->E (.ref av) (some d) H')
 |_=>False
def kG (aG:Addr):Sp:=fun vs H Q E=>match vs with
 | [.ref r]=> ∃dx d pc a sn ms,pz aG H r dx d pc a sn ms/\Q (.int (ms.length:Nat)) H
 |_=>False
theorem WR (q:Q (.bl false) H):qb K [.non,.ty "int"] H Q:=⟨_,false,tI.non,by first|rfl|kernel_rfl,q⟩
theorem WQ (q:Q (.bl false) H):qb K [.non,.ty "str"] H Q:=⟨_,false,tI.non,by first|rfl|kernel_rfl,q⟩
def bwB (v:V):Prop:=v = .non\/(∃i,v = .int i)\/∃z,v = .str z/\z.length<=1000
noncomputable def Uq (k:Str) (v:V):Bool:=if k = "put" then(match v with | .str z=>xM z|_=>false) else if k = "read" then(match v with | .int i=>b7 i 1 60|_=>false) else(decide (k = "begin")||decide (k = "end"))&&decide (v = .non)
noncomputable abbrev Ww:=Int×Int×Str×V
noncomputable def tJ (w:Ww):Bool:=b7 w.1 0 400&&b7 w.2.1 0 1&&Uq w.2.2.1 w.2.2.2
def WwT (H:Hp) (x:Addr) (w:Ww):Prop:=H x=some (.tup [.int w.1,.int w.2.1,.str w.2.2.1,w.2.2.2])/\bwB w.2.2.2
def yR (H:Hp) (p:Addr) (ws:List Ww):Prop:= ∃xs:List Addr,H p=some (.lst (xs.map V.ref))/\Paired (WwT H) xs ws/\ws.length<=1000
def rn:Sp:=fun vs H Q E=>match vs with
 | [.str k,v]=>bwB v/\∀H',a7 H H'->Q (.bl (Uq k v)) H'
 |_=>False
def tS:Sp:=fun vs H Q E=>match vs with
 | [.ref x]=> ∃w,WwT H x w/\∀H',a7 H H'->Q (.bl (tJ w)) H'
 |_=>False
def jF (aw:Addr):Sp:=fun vs H Q E=>match vs with
 | [.ref e,v]=>H e=some (.ext (xX e aw none))/\∀d,H d=none->Q .non (upd (upd H d (.xd [("at",v)])) e (.ext (xX e aw (some d))))
 |_=>False
def mz (aw:Addr):Sp:=fun vs H Q E=>match vs with
 | [.ref p]=> ∃ws,yR H p ws/\(ws.length<=60->(∀w∈ws,tJ w=true)->∀H',a7 H H'->Q .non H')/\(∀(i:Nat),i<=60->i<ws.length->(i=60\/∃w,ws[i]?=some w/\tJ w=false)->(∀j<i,∀w,ws[j]?=some w->tJ w=true)->∀H' d,a7 H H'->H' d=some (.xd [("at",.int i)])->E (.ref aw) (some d) H')
 |_=>False
theorem WwT.same (h:WwT H x w) (s:a7 H H'):WwT H' x w:=⟨s _ _ h.1,h.2⟩
theorem yR.same (h:yR H p ws) (s:a7 H H'):yR H' p ws:=by
 obtain⟨xs,h1,i,a⟩:=h;exact⟨xs,s _ _ h1,bq i fun c d q=>q.same s,a⟩
def Ul (ws:List Ww) (M:Int):Prop:=(ws= []/\M = -1)\/((∃w∈ws,w.1=M)/\∀w∈ws,w.1<=M)
def my:Sp:=fun vs H Q E=>match vs with
 | [.ref p]=> ∃ws,yR H p ws/\∀M H',a7 H H'->Ul ws M->Q (.int M) H'
 |_=>False
theorem NS.row (h:NS H0 H p dss):wa H p dss:=by
 obtain⟨_,xs,h1,d,a⟩:=h;exact⟨xs,h1,bq d fun x i q=>q.2,a⟩
structure XB (CW CRo CH CT CS CWy CM:Addr) (tb:List (Addr×Str)) (H:Hp) (x dx tm rds ded wl hs os td r0 r1 h0 h1 o0 o1:Addr) (M:Int) (da db:List (List Cp)) (ws:List Ww) (A0 A1:HAd) (z0 z1:Hn):Prop where
 hx:H x=some (.ins CW dx (dA (.ref rds) (.ref tm) (.ref ded) (.ref wl) (.int M) (.ref hs) (.ref os) (.ref td) (.int 0)))
 hr:H rds=some (.tup [.ref r0,.ref r1])
 ra: ∃dx pd pc,pz CRo H r0 dx pd pc da 0 []
 rb: ∃dx pd pc,pz CRo H r1 dx pd pc db 0 []
 hh:H hs=some (.tup [.ref h0,.ref h1])
 ha:k7 CH CT CS CWy CM tb H h0 A0 z0
 hb:k7 CH CT CS CWy CM tb H h1 A1 z1
 ho:H os=some (.tup [.ref o0,.ref o1])
 oa:H o0=some (.lst [])
 ob:H o1=some (.lst [])
 ht:H td=some (.lst [])
 hd: ∃c0 c1,H ded=some (.tup [.ref c0,.ref c1])/\wa H c0 da/\wa H c1 db
 hw:yR H wl ws
theorem pz.same (h:pz C H r dx pd pc dss sn ms) (s:a7 H H'):pz C H' r dx pd pc dss sn ms:=by
 obtain⟨cs,n,m⟩:=h.hc;obtain⟨xs,i,d,j⟩:=h.hd;exact⟨s _ _ h.hr,⟨xs,s _ _ i,bq d fun a b q=>⟨q.1,q.2.same s⟩,j⟩,⟨cs,s _ _ n,bq m fun a b q=>s _ _ q⟩,h.ne⟩
def DN (g:Int) (a:List (List Cp)):Prop:= ∀d∈a,oE g d=true
def Ef (g:Int) (a:List (List Cp)) (i:Nat):Prop:=(∃d,a[i]?=some d/\oE g d=false)/\∀j<i,∀d,a[j]?=some d->oE g d=true
def HI (ws:List Ww) (i:Nat):Prop:=i<=60/\i<ws.length/\(i=60\/∃w,ws[i]?=some w/\tJ w=false)/\∀j<i,∀w,ws[j]?=some w->tJ w=true
def lp (aD aG aC aB ag aE ay aI ar aJ aK ao ak aq aH av aw:Addr):Sp:=fun vs H Q E=>match vs with
 | [.ref x,.ref tm,.ref rd,.ref wi]=> ∃dx r o t g f l pa pb a db ws,H x=some (.ins aD dx [])/\Bv aH H tm r o t g f l/\good r o t g f l/\H rd=some (.tup [.ref pa,.ref pb])/\wa H pa a/\wa H pb db/\(a.length<=60/\db.length<=60)/\yR H wi ws/\(∀i,Ef g a i->∀H' d,a7 H H'->H' d=some (.xd [("at",.int i)])->E (.ref av) (some d) H')/\(DN g a->∀i,Ef g db i->∀H' d,a7 H H'->H' d=some (.xd [("at",.int i)])->E (.ref av) (some d) H')/\(DN g a->DN g db->∀i,HI ws i->∀H' d,cj x H H'->H' d=some (.xd [("at",.int i)])->E (.ref aw) (some d) H')/\(DN g a->DN g db->ws.length<=60->(∀w∈ws,tJ w=true)->∀H' m j wl u os s B C h0 h1 n y M v z,cj x H H'->Ul ws M->XB aD aG aC aB ag aE ay (tbl aI ar aJ aK ao ak aq) H' x dx tm m j wl u os s B C h0 h1 n y M a db ws v z (kR 0 r o t f l) (kR 1 r t o f l)->Q .non H')
 |_=>False
def XA (J a F m G i n:Addr) (B:List (Addr×Str)) (H:Hp) (x:Addr) (M:Int):Prop:= ∃dx C j d wl v os u O P h0 h1 s z E db ws y I r o t f l,XB J a F m G i n B H x dx C j d wl v os u O P h0 h1 s z M E db ws y I (kR 0 r o t f l) (kR 1 r t o f l)
def ng (aD aG aC aB ag aE ay aI ar aJ aK ao ak aq:Addr):Sp:=fun vs H Q E=>match vs with
 | [.ref x,.int side]=>(side=0\/side=1)/\∃M,XA aD aG aC aB ag aE ay (tbl aI ar aJ aK ao ak aq) H x M/\Q (.int 0) H
 |_=>False
def i6 (aD aG aC aB ag aE ay aI ar aJ aK ao ak aq:Addr):Sp:=fun vs H Q E=>match vs with
 | [.ref x,.int side]=>(side=0\/side=1)/\∃M,XA aD aG aC aB ag aE ay (tbl aI ar aJ aK ao ak aq) H x M/\Q (.bl true) H
 |_=>False
def oO (aD aG aC aB ag aE ay aI ar aJ aK ao ak aq:Addr):Sp:=fun vs H Q E=>match vs with
 | [.ref x]=> ∃M,XA aD aG aC aB ag aE ay (tbl aI ar aJ aK ao ak aq) H x M/\∀H',a7 H H'->Q (.bl (decide (M<0))) H'
 |_=>False
def lj (aD aG aC aB ag aE ay aI ar aJ aK ao ak aq:Addr):Sp:=fun vs H Q E=>match vs with
 | [.ref x,.int side]=>(side=0\/side=1)/\∃M,XA aD aG aC aB ag aE ay (tbl aI ar aJ aK ao ak aq) H x M/\∀p H',a7 H H'->H' p=some (.lst [])->Q (.ref p) H'
 |_=>False
def kv (aD aG aC aB ag aE ay aI ar aJ aK ao ak aq:Addr):Sp:=fun vs H Q E=>match vs with
 | [.ref x,.int side]=>(side=0\/side=1)/\∃M,XA aD aG aC aB ag aE ay (tbl aI ar aJ aK ao ak aq) H x M/\∀p H',a7 H H'->H' p=some (.lst [])->Q (.ref p) H'
 |_=>False
noncomputable def dec (n:Int):Str:=Str.ofString (toString n)
theorem Gx (m:Nat):(dec (m:Nat)).cps.toList=(Nat.toDigits 10 m).map Char.toNat:=W.KIN.signs_num m
theorem Dl (h:0<=n): ∀c∈(dec n).cps.toList,48<=c/\c<=57:=by
 obtain⟨m,rfl⟩:=Int.eq_ofNat_of_zero_le h;intro c hc;rw[Gx] at hc;obtain⟨ch,a,e⟩:=List.mem_map.mp hc;have r:=PyProof.Rows.digit_range (Nat.isDigit_of_mem_toDigits (by decide) (by decide) a);rw[<-e];exact r
theorem uy (h:0<=n) (k:Nat) (hk:0<k) (h1:n<10 ^ k):(dec n).length<=k:=PyProof.Rows.toString_length_le h hk h1
theorem Xs: ∀m:Nat,0<m->∃c r,Nat.toDigits 10 m=c::r/\c≠ '0' :=by
 intro m
 induction m using Nat.strongRecOn with
 |_ m a=>
  intro hm;by_cases h:m<10
  ·
   rw[Nat.toDigits_of_lt_base h];refine⟨_,_,rfl,?_⟩;have: ∀d:Nat,d<10->0<d->Nat.digitChar d≠ '0' :=by decide
   exact this m h hm
  ·
   obtain⟨c,r,e,hc⟩:=a (m / 10) (by lia) (by lia);have t:Nat.toDigits 10 (m / 10)++Nat.toDigits 10 (m % 10)=Nat.toDigits 10 (10*(m / 10)+m % 10):=Nat.toDigits_append_toDigits (by decide) (by lia) (Nat.mod_lt m (by decide));rw[Nat.div_add_mod] at t;rw[<-t,e];exact⟨c,_,rfl,hc⟩
theorem Xu (h:0<=n): ∃c r,(dec n).cps.toList=c::r/\(c=48->dec n=Str.ofString "0"):=by
 obtain⟨m,rfl⟩:=Int.eq_ofNat_of_zero_le h;rw[Gx];cases m with
 |zero=>exact⟨48,[],rfl,fun _=>rfl⟩
 |succ k=>
  obtain⟨c,r,e,hc⟩:=Xs (k+1) (by lia);rw[e];refine⟨c.toNat,r.map Char.toNat,rfl,fun z=>?_⟩;exact absurd (Char.toNat_inj.mp (z.trans (show 48 = '0'.toNat from rfl))) hc
theorem y2 (h:0<=n) (h1:n<10 ^ 9):intText? (dec n)=some n:=W.KIN.num_reads h (by lia)
noncomputable def cat (c:Nat):List (List Nat)->List Nat
 | []=>[]
 | [a]=>a
 |a::b::r=>a++c::cat c (b::r)
theorem GF: ∀{a b x y:List Nat},c ∉ a->c ∉ b->a++c::x=b++c::y->a=b/\x=y
 | [],[],_,_,_,_,h=>⟨rfl,(List.cons.inj h).2⟩
 | [],_::_,_,_,_,hb,h=>absurd (List.mem_cons.mpr (.inl (List.cons.inj h).1)) hb
 |_::_,[],_,_,ha,_,h=>absurd (List.mem_cons.mpr (.inl (List.cons.inj h).1.symm)) ha
 |p::a,q::b,x,y,ha,hb,h=>by
  obtain⟨h1,i⟩:=List.cons.inj h;obtain⟨d,j⟩:=GF (fun z=>ha (List.mem_cons_of_mem _ z)) (fun z=>hb (List.mem_cons_of_mem _ z)) i;exact⟨by rw[h1,d],j⟩
theorem GB: ∀{l m:List (List Nat)},l≠[]->m≠[]->(∀a∈l,c ∉ a)->(∀a∈m,c ∉ a)->cat c l=cat c m->l=m
 | [],_,h,_,_,_,_=>absurd rfl h
 |_,[],_,h,_,_,_=>absurd rfl h
 | [a],[b],_,_,_,_,h=>by rw[show a=b from h]
 | [a],b::d::r,_,_,hl,_,h=>absurd (show c∈a from(show a=b++c::cat c (d::r) from h)▸by simp) (hl a (by simp))
 |a::d::r,[b],_,_,_,hm,h=>absurd (show c∈b from(show a++c::cat c (d::r)=b from h)▸by simp) (hm b (by simp))
 |a::d::r,b::e::s,_,_,hl,hm,h=>by
  obtain⟨i,j⟩:=GF (hl a (by simp)) (hm b (by simp)) h;rw[i,GB (by simp) (by simp) (fun x hx=>hl x (List.mem_cons_of_mem _ hx)) (fun x hx=>hm x (List.mem_cons_of_mem _ hx)) j]
theorem D7: ∀(ws:List Str),(Str.join ⟨#[c]⟩ ws).cps.toList=cat c (ws.map fun w=>w.cps.toList)
 | []=>rfl
 | [w]=>rfl
 |w::x::r=>by
  have:=D7 (c:=c) (x::r);show((w++⟨#[c]⟩)++Str.join ⟨#[c]⟩ (x::r)).cps.toList=_;rw[PySem.Str.cps_append,PySem.Str.cps_append,Array.toList_append,Array.toList_append,this];show(w.cps.toList++ [c])++_=w.cps.toList++c::_;simp
theorem Co {b:Str} (h:a.cps.toList=b.cps.toList):a=b:=by
 cases a;cases b;congr 1;exact Array.toList_inj.mp h
theorem oB (g:Str): ∀(r:List Str) (acc:Array Nat),r.foldl (fun acc p=>acc++g.cps++p.cps) acc=acc++(r.foldl (fun a p=>a++g.cps++p.cps) #[])
 | [],acc=>by simp
 |p::r,acc=>by
  rw[List.foldl_cons,oB g r,List.foldl_cons,oB g r (#[]++g.cps++p.cps)];simp
theorem qr (g:Str): ∀ws:List Str,Txt.join g ws=Str.join g ws
 | []=>rfl
 | [w]=>rfl
 |w::x::r=>by
  have a:=qr g (x::r);have d:Txt.join g (x::r)=⟨r.foldl (fun acc p=>acc++g.cps++p.cps) x.cps⟩:=rfl;have i:Txt.join g (w::x::r)=⟨(x::r).foldl (fun acc p=>acc++g.cps++p.cps) w.cps⟩:=rfl;rw[d] at a;rw[i,List.foldl_cons];show _=(w++g)++Str.join g (x::r);rw[<-a];refine Co ?_;rw[PySem.Str.cps_append,PySem.Str.cps_append];show(r.foldl _ (w.cps++g.cps++x.cps)).toList=(w.cps++g.cps++r.foldl _ x.cps).toList;rw[oB g r (w.cps++g.cps++x.cps),oB g r x.cps];simp
theorem Iq (x y:Str):Txt.split x y≠[]:=by
 unfold Txt.split;split
 ·simp
 ·
  split
  ·simp
  ·
   rw[StrLaws.partsBetween_eq];obtain⟨p,r,e⟩:=StrLaws.partsFrom_ne x y.length 0 (Builtin.Str.occurrences x y 0 x.length (x.length+1));rw[e];simp
theorem zp (h0:ws≠[]) (h: ∀w∈ws,c ∉ w.cps.toList):Txt.split (Txt.join ⟨#[c]⟩ ws) ⟨#[c]⟩=ws:=by
 have e:=StrLaws.join_split (Txt.join ⟨#[c]⟩ ws) ⟨#[c]⟩;have f:=StrLaws.split_free (Txt.join ⟨#[c]⟩ ws) c;have d:=Iq (Txt.join ⟨#[c]⟩ ws) ⟨#[c]⟩;generalize Txt.split (Txt.join ⟨#[c]⟩ ws) ⟨#[c]⟩=vs at e f d;rw[qr] at e;have i:=congrArg (fun z=>z.cps.toList) e;simp only[D7] at i;have:=GB (by simpa using d) (by simpa using h0) (fun a ha=>by obtain⟨w,hw,rfl⟩:=List.mem_map.mp ha;exact f w hw) (fun a ha=>by obtain⟨w,hw,rfl⟩:=List.mem_map.mp ha;exact h w hw) i;have inj: ∀{l m:List Str},l.map (fun w=>w.cps.toList)=m.map (fun w=>w.cps.toList)->l=m:=fun{l m} z=>by
  induction l generalizing m with
  |nil=>cases m with
   |nil=>rfl
   |cons _ _=>simp at z
  |cons a l j=>cases m with
   |nil=>simp at z
   |cons b m=>
    simp only[List.map_cons,List.cons.injEq] at z;rw[Co z.1,j z.2]
 exact inj this
structure T6 where
 r:Int
 o:Int
 t:Int
 g:Int
 f:Int
 l:Int
def T6.ok (T:T6):Prop:=good T.r T.o T.t T.g T.f T.l/\¬T.r<oZ T.o T.t T.g
noncomputable def nums (T:T6):List Int:=[T.r,T.o,T.t,T.g,T.f,T.l]
noncomputable def trow (T:T6):Str:=Txt.join " " ("terms" ::(nums T).map dec)
noncomputable def bnd (T:T6):Int:=(T.o+T.t+1)*(T.l+T.g+2*T.g+4)+2*T.g+4
noncomputable def ktext (T:T6):Str:=Txt.join "\n" [trow T,"road 0","road 1","turn 0"]
noncomputable def wc (T:T6) (w:Str):Str:=if w = "quiet" then "yes" else if w = "kept" then ktext T else dec (bnd T)
noncomputable def DG (w:Str):Str:=if w = "state" then "shut" else if w = "stand" then "0 0 1 0 0" else ""
def LY (I a E m F i n:Addr) (B:List (Addr×Str)) (H:Hp) (x C:Addr) (T:T6):Prop:= ∃dx j d wl v os u J O h0 h1 s z y G,XB I a E m F i n B H x dx C j d wl v os u J O h0 h1 s z (-1) [] [] [] y G (kR 0 T.r T.o T.t T.f T.l) (kR 1 T.r T.t T.o T.f T.l)
abbrev Tm (a:Addr) (H:Hp) (x:Addr) (T:T6):Prop:=Bv a H x T.r T.o T.t T.g T.f T.l
structure aht (CTa CW CRo CH CT CS CWy CM CTe:Addr) (tb:List (Addr×Str)) (H:Hp) (x dx tm dl d0 d1 wl:Addr) (wk:V) (T:T6) (b:Bool):Prop where
 hx:H x=some (.ins CTa dx (bB (.ref tm) (.ref dl) (.ref wl) wk))
 ht:Tm CTe H tm T
 ok:T.ok
 hd:H dl=some (.lst [.ref d0,.ref d1])
 h0:H d0=some (.lst [])
 h1:H d1=some (.lst [])
 hw:H wl=some (.lst [])
 wk:if b then∃w,wk = .ref w/\LY CW CRo CH CT CS CWy CM tb H w tm T else wk = .non
def bQ (d z a v m y j n i:Addr) (s:List (Addr×Str)) (H:Hp) (x:Addr) (T:T6) (b:Bool):Prop:= ∃dx u dl d0 d1 wl wk,aht d z a v m y j n i s H x dx u dl d0 d1 wl wk T b
def pZ:Sp:=fun vs H Q E=>match vs with
 | [.str z]=> ∃n,z=dec n/\(0<=n/\n<1000000000)/\∀H',a7 H H'->Q (.int n) H'
 |_=>False
def oH:Sp:=fun vs H Q E=>match vs with
 | [.ref p]=> ∃ns:List Int,H p=some (.lst ((ns.map dec).map V.str))/\(∀n∈ns,0<=n/\n<1000000000)/\ns.length<=1000/\∀q H',a7 H H'->H' q=some (.lst (ns.map V.int))->Q (.ref q) H'
 |_=>False
def kr:Sp:=fun vs H Q E=>match vs with
 | [.str z,.ref p]=> ∃ns:List Int,H p=some (.lst (ns.map V.int))/\(∀n∈ns,0<=n/\n<1000000000)/\ns.length<=100/\z.length<=100/\∀H',a7 H H'->Q (.str (Txt.join " " (z::ns.map dec))) H'
 |_=>False
def mx (aH:Addr):Sp:=fun vs H Q E=>match vs with
 | [.ref x]=> ∃T:T6,Tm aH H x T/\T.ok/\∀H',a7 H H'->Q (.str (trow T)) H'
 |_=>False
def rg (aH az aA:Addr):Sp:=fun vs H Q E=>match vs with
 | [.str z]=> ∃T:T6,z=trow T/\T.ok/\∀x H',a7 H H'->Tm aH H' x T->Q (.ref x) H'
 |_=>False
def m_:Sp:=fun vs H Q E=>match vs with
 | [.int s,.ref p]=>(s=0\/s=1)/\H p=some (.lst [])/\∀H',a7 H H'->Q (.str (if s=0 then "road 0" else "road 1")) H'
 |_=>False
def qJ:Sp:=fun vs H Q E=>match vs with
 | [.ref x]=>False/\Q .non H
 |_=>False
def zr:Sp:=fun vs H Q E=>match vs with
 | [.str x]=>False/\Q .non H
 |_=>False
def tV:Sp:=fun vs H Q E=>match vs with
 | [.str z]=>z = "-" /\∀p H',a7 H H'->H' p=some (.lst [])->Q (.ref p) H'
 |_=>False
def mw:Sp:=fun vs H Q E=>match vs with
 | [.str z]=>(z = "road 0" \/z = "road 1 -")/\∀i H',a7 H H'->Q (.int i) H'
 |_=>False
def rq (av:Addr):Sp:=fun vs H Q E=>match vs with
 | [.str z,.int g]=>(z = "road 0" \/z = "road 1 -")/\b7 g 1 60=true/\∀p H',a7 H H'->Q (.ref p) H'
 |_=>False
def q_:Sp:=fun vs H Q E=>match vs with
 | [.str w,.ref p]=>(w = "begin" /\H p=some (.lst [])/\Q .non H)\/(w = "read" /\H p=some (.lst [.str (dec 60)])/\∀H',a7 H H'->Q (.int 60) H')
 |_=>False
def tR:Sp:=fun vs H Q E=>match vs with
 | [.str z]=>(z = "wish 0 0 begin" \/z = "wish 400 1 read 60")/\∀v H',a7 H H'->Q v H'
 |_=>False
def rf:Sp:=fun vs H Q E=>match vs with
 | [.str z,.str w]=>w = "run" /\∃n,z=Txt.join " " ["run",dec n]/\(0<=n/\n<=4000)/\∀H',a7 H H'->Q (.int n) H'
 |_=>False
def oo:Sp:=fun vs H Q E=>match vs with
 | [.ref x]=>False/\Q .non H
 |_=>False
def rp:Sp:=fun vs H Q E=>match vs with
 | [.ref p]=>H p=some (.lst [])/\Q (.int 1) H
 |_=>False
def uR:Sp:=fun vs H Q E=>match vs with
 | [.ref x]=>False/\Q .non H
 |_=>False
def kq:Sp:=fun vs H Q E=>match vs with
 | [.ref p]=>H p=some (.lst [])/\∀H',a7 H H'->Q (.int 0) H'
 |_=>False
def rk (aH:Addr):Sp:=fun vs H Q E=>match vs with
 | [.ref tm,.ref ds,.ref wi]=> ∃T d0 d1,Tm aH H tm T/\T.ok/\H ds=some (.lst [.ref d0,.ref d1])/\H d0=some (.lst [])/\H d1=some (.lst [])/\H wi=some (.lst [])/\∀H',a7 H H'->Q (.int (bnd T)) H'
 |_=>False
def rj:Sp:=fun vs H Q E=>match vs with
 | [.ref x]=>False/\Q .non H
 |_=>False
def Cr (aD aG aC aB ag aE ay aI ar aJ aK ao ak aq aH:Addr):Sp:=fun vs H Q E=>match vs with
 | [.ref x]=> ∃a T,LY aD aG aC aB ag aE ay (tbl aI ar aJ aK ao ak aq) H x a T/\Tm aH H a T/\T.ok/\∀H',a7 H H'->Q (.str (ktext T)) H'
 |_=>False
def rh:Sp:=fun vs H Q E=>match vs with
 | [.ref p]=>H p=some (.lst [])/\∀H',a7 H H'->Q (.str "") H'
 |_=>False
def p9:Sp:=fun vs H Q E=>match vs with
 | [.ref x]=>False/\Q .non H
 |_=>False
def rA (aD aG aC aB ag aE ay aI ar aJ aK ao ak aq:Addr):Sp:=fun vs H Q E=>match vs with
 | [.ref x,.int n]=>(∃a T,LY aD aG aC aB ag aE ay (tbl aI ar aJ aK ao ak aq) H x a T)/\∀H',a7 H H'->Q (.int 0) H'
 |_=>False
def lr (aO:Addr):Sp:=fun vs H Q E=>match vs with
 | [.ref x,.ref tm]=> ∃dx,H x=some (.ins aO dx [])/\∀dl d0 d1 wl H',cj x H H'->H' x=some (.ins aO dx (bB (.ref tm) (.ref dl) (.ref wl) .non))->H' dl=some (.lst [.ref d0,.ref d1])->H' d0=some (.lst [])->H' d1=some (.lst [])->H' wl=some (.lst [])->Q .non H'
 |_=>False
def kB (aO aD aG aC aB ag aE ay aI ar aJ aK ao ak aq aH av aw:Addr):Sp:=fun vs H Q E=>match vs with
 | [.ref x]=> ∃T b,bQ aO aD aG aC aB ag aE ay aH (tbl aI ar aJ aK ao ak aq) H x T b/\∀w a H',cj x H H'->bQ aO aD aG aC aB ag aE ay aH (tbl aI ar aJ aK ao ak aq) H' x T true->LY aD aG aC aB ag aE ay (tbl aI ar aJ aK ao ak aq) H' w a T->Tm aH H' a T->Q (.ref w) H'
 |_=>False
def oP:Sp:=fun vs H Q E=>match vs with
 | [.ref x,v]=>False/\Q .non H
 |_=>False
def nh (aO aD aG aC aB ag aE ay aI ar aJ aK ao ak aq aH av aw:Addr):Sp:=fun vs H Q E=>match vs with
 | [.ref x,.int n]=> ∃T b,bQ aO aD aG aC aB ag aE ay aH (tbl aI ar aJ aK ao ak aq) H x T b/\∀H',cj x H H'->bQ aO aD aG aC aB ag aE ay aH (tbl aI ar aJ aK ao ak aq) H' x T true->Q (.str "0") H'
 |_=>False
def jW (aO aD aG aC aB ag aE ay aI ar aJ aK ao ak aq aH av aw:Addr):Sp:=fun vs H Q E=>match vs with
 | [.ref x,.str w]=> ∃T b,bQ aO aD aG aC aB ag aE ay aH (tbl aI ar aJ aK ao ak aq) H x T b/\(w = "quiet" \/w = "bound" \/w = "kept")/\∀H',cj x H H'->bQ aO aD aG aC aB ag aE ay aH (tbl aI ar aJ aK ao ak aq) H' x T true->Q (.str (wc T w)) H'
 |_=>False
def BL (w:Str):Prop:=w = "state" \/w = "stand" \/w = "in" \/w = "out"
def kA (aO aD aG aC aB ag aE ay aI ar aJ aK ao ak aq aH av aw:Addr):Sp:=fun vs H Q E=>match vs with
 | [.ref x,.str w,.int s]=>(s=0\/s=1)/\BL w/\∃T b,bQ aO aD aG aC aB ag aE ay aH (tbl aI ar aJ aK ao ak aq) H x T b/\∀H',cj x H H'->bQ aO aD aG aC aB ag aE ay aH (tbl aI ar aJ aK ao ak aq) H' x T true->Q (.str (DG w)) H'
 |_=>False
def kD (aO aD aG aC aB ag aE ay aI ar aJ aK ao ak aq aH av:Addr):Sp:=fun vs H Q E=>match vs with
 | [.ref x,.str z]=>(z = "road 0" \/z = "road 1 -")/\(∃T,bQ aO aD aG aC aB ag aE ay aH (tbl aI ar aJ aK ao ak aq) H x T true)/\∀H',a7 H H'->Q .non H'
 |_=>False
def kC (aO aD aG aC aB ag aE ay aI ar aJ aK ao ak aq aH:Addr):Sp:=fun vs H Q E=>match vs with
 | [.ref x,.str z]=>(z = "wish 0 0 begin" \/z = "wish 400 1 read 60")/\(∃T,bQ aO aD aG aC aB ag aE ay aH (tbl aI ar aJ aK ao ak aq) H x T true)/\∀H',a7 H H'->Q .non H'
 |_=>False
def Ask (T:T6) (z a:Str):Prop:=(∃n,(0<=n/\n<=4000)/\z=Txt.join " " ["run",dec n]/\a = "0")\/((z = "quiet" \/z = "bound" \/z = "kept")/\a=wc T z)\/∃w s,(s=0\/s=1)/\BL w/\z=Txt.join " " [w,dec s]/\a=DG w
def XF (z:Str):Prop:=(z = "road 0" \/z = "road 1 -")\/(z = "wish 0 0 begin" \/z = "wish 400 1 read 60")
def XE (z:Str):Prop:=z.length<=1000/\∃w r,Txt.split z " " = w::r/\w≠ "terms"
def lq (aO aD aG aC aB ag aE ay aI ar aJ aK ao ak aq aH av aw:Addr):Sp:=fun vs H Q E=>match vs with
 | [.ref x,.str z]=> ∃T b,bQ aO aD aG aC aB ag aE ay aH (tbl aI ar aJ aK ao ak aq) H x T b/\((∃a,Ask T z a/\∀H',cj x H H'->bQ aO aD aG aC aB ag aE ay aH (tbl aI ar aJ aK ao ak aq) H' x T true->Q (.str a) H')\/(b=true/\XF z/\∀H',a7 H H'->Q .non H'))
 |_=>False
def ly (bo:Addr):Sp:=fun vs H Q E=>match vs with
 | [.ref x]=> ∃dx,H x=some (.ins bo dx [])/\Q .non (upd H x (.ins bo dx (br .non (.int 0))))
 |_=>False
def jY (bo aO aD aG aC aB ag aE ay aI ar aJ aK ao ak aq aH az aA:Addr):Sp:=fun vs H Q E=>match vs with
 | [.ref x,.str z]=> ∃dx tk n T,H x=some (.ins bo dx (br tk (.int n)))/\z=trow T/\T.ok/\∀y H',cj x H H'->H' x=some (.ins bo dx (br (.ref y) (.int n)))->bQ aO aD aG aC aB ag aE ay aH (tbl aI ar aJ aK ao ak aq) H' y T false->Q (.str "ok") H'
 |_=>False
def kJ (bo aO aD aG aC aB ag aE ay aI ar aJ aK ao ak aq aH az aA av aw:Addr):Sp:=fun vs H Q E=>match vs with
 | [.ref x,.str z]=> ∃dx tk n,H x=some (.ins bo dx (br tk (.int n)))/\((∃T,z=trow T/\T.ok/\∀y H',cj x H H'->H' x=some (.ins bo dx (br (.ref y) (.int n)))->bQ aO aD aG aC aB ag aE ay aH (tbl aI ar aJ aK ao ak aq) H' y T false->Q (.str "ok") H')\/(XE z/\((tk = .non/\∀H',a7 H H'->Q .non H')\/∃y T b,tk = .ref y/\bQ aO aD aG aC aB ag aE ay aH (tbl aI ar aJ aK ao ak aq) H y T b/\((∃a,Ask T z a/\∀H',cj y H H'->bQ aO aD aG aC aB ag aE ay aH (tbl aI ar aJ aK ao ak aq) H' y T true->Q (.str a) H')\/(b=true/\XF z/\∀H',a7 H H'->Q .non H')))))
 |_=>False
def kH (aM:Addr):Sp:=fun vs H Q E=>match vs with
 | [.ref e,v]=>H e=some (.ext (xX e aM none))/\∀d,H d=none->Q .non (upd (upd H d (.xd [("at",v)])) e (.ext (xX e aM (some d))))
 |_=>False
def Fd (x y:Addr) (H H':Hp):Prop:= ∀c u,H c=some u->c≠x->c≠y->H' c=some u
def rB (bo aO aD aG aC aB ag aE ay aI ar aJ aK ao ak aq aH az aA av aw aM:Addr):Sp:=fun vs H Q E=>match vs with
 | [.ref x,.str z]=> ∃dx tk n,H x=some (.ins bo dx (br tk (.int n)))/\((∃T,z=trow T/\T.ok/\∀y H',cj x H H'->H' x=some (.ins bo dx (br (.ref y) (.int (n+1))))->bQ aO aD aG aC aB ag aE ay aH (tbl aI ar aJ aK ao ak aq) H' y T false->Q (.str "ok") H')\/(XE z/\((tk = .non/\∀H' d,a7 H H'->H' d=some (.xd [("at",.int n)])->E (.ref aM) (some d) H')\/∃y T b,tk = .ref y/\bQ aO aD aG aC aB ag aE ay aH (tbl aI ar aJ aK ao ak aq) H y T b/\((∃a,Ask T z a/\∀H',Fd x y H H'->H' x=some (.ins bo dx (br (.ref y) (.int (n+1))))->bQ aO aD aG aC aB ag aE ay aH (tbl aI ar aJ aK ao ak aq) H' y T true->Q (.str a) H')\/(b=true/\XF z/\∀H' d,a7 H H'->H' d=some (.xd [("at",.int n)])->E (.ref aM) (some d) H')))))
 |_=>False
def mD (K:W.Frag):Sp:=fun vs H Q E=>match vs with
 | [.ref a,.int k]=> ∃ns:List Int,bO K H a (ns.map V.int)/\0<=k/\∀n,Q (.int n) H
 |_=>False
def oJ:Sp:=fun vs H Q E=>match vs with
 | [.int c,.int k]=>(0<=k/\k<=100)/\∀v H',a7 H H'->0<=v->Q (.int v) H'
 |_=>False
def mC:Sp:=fun vs H Q E=>match vs with
 | [.int c]=> ∀T p H',a7 H H'->T6.ok T->H' p=some (.lst ((nums T).map V.int))->Q (.ref p) H'
 |_=>False
def oK:Sp:=fun vs H Q E=>match vs with
 | [.int c]=> ∀z H',a7 H H'->XE z->Q (.str z) H'
 |_=>False
def mB (bo aO aD aG aC aB ag aE ay aI ar aJ aK ao ak aq aH az aA av aw aM aU:Addr):Sp:=fun vs H Q E=>match vs with
 | [.ref d,.str z,.int n]=> ∃dx tk,H d=some (.ins bo dx (br tk (.int n)))/\XE z/\(tk = .non\/∃y T,tk = .ref y/\bQ aO aD aG aC aB ag aE ay aH (tbl aI ar aJ aK ao ak aq) H y T true/\XF z)/\∀H',a7 H H'->Q (.bl true) H'
 |_=>False
def ku:Sp:=fun vs H Q E=>match vs with
 | [.ref p]=> ∃T,T6.ok T/\H p=some (.lst ((nums T).map V.int))/\∀H',a7 H H'->Q (.str (trow T)) H'
 |_=>False
def oM:Sp:=fun vs H Q E=>match vs with
 | [.ref p]=> ∃T,T6.ok T/\H p=some (.lst ((nums T).map V.int))/\∀H',a7 H H'->Q (.int (bnd T)) H'
 |_=>False
def oN (bo aO aD aG aC aB ag aE ay aI ar aJ aK ao ak aq aH az aA av aw aM:Addr):Sp:=fun vs H Q E=>match vs with
 | [.ref d,.ref p,.int c]=> ∃dx y n T,H d=some (.ins bo dx (br (.ref y) (.int n)))/\bQ aO aD aG aC aB ag aE ay aH (tbl aI ar aJ aK ao ak aq) H y T false/\H p=some (.lst ((nums T).map V.int))/\∀H',Fd d y H H'->H' d=some (.ins bo dx (br (.ref y) (.int (n+12))))->bQ aO aD aG aC aB ag aE ay aH (tbl aI ar aJ aK ao ak aq) H' y T true->Q (.int 12) H'
 |_=>False
set_option backward.eqns.nonrecursive true
local macro_rules | `(tactic| exists $es,*) => do
  let l := ("XS GJ tUn Ib tC DF pP Uw N0 XX BG tB XT X0 tOr BI qY we XY Et N2 NZ tIf Ik tSl Fw NY MG UG UC ahi Hc Hb G6 G5 Mz MB My Mw Mx GY G1 UE UD XZ Me IU IV Ig GK GO Er GU Fg I_ Iz ED CJ GX Uv Uy tCs tTC E7 Lw Xe XQ Ew Option.join_some ahz NX Xv Xk L2.start List.map_cons List.map_nil List.length_cons List.length_nil List.replicate_zero List.replicate_succ List.append_nil List.nil_append List.cons_append List.getElem?_cons_zero List.getElem?_cons_succ List.set_cons_zero List.set_cons_succ decide_eq_true_eq Bool.not_eq_true' decide_eq_false_iff_not if_true if_false Bool.false_eq_true true_and and_true Bool.not_false Int.reduceLT Int.reduceLE Int.reducePow Int.reduceToNat Int.reduceAdd Int.reduceSub Int.reduceMul Int.reduceNeg Nat.reducePow Nat.reduceLT Nat.reduceLeDiff true_or or_true Int.reduceEq and_self Nat.reduceAdd Nat.reduceSub reduceCtorEq not_true_eq_false not_false_eq_true Cq p8 p7 jE kz kI lh nj jX kE wo p0 lx p_ oQ p6 jG tU tT oI wj lu kG rn tS jF mz my lp ng i6 oO lj kv pZ oH kr mx rg m_ tV mw rq q_ tR rf rp kq rk Cr rh p9 rA lr kB oP nh jW kA kD kC lq ly jY kJ kH rB mD oJ mC oK mB ku oM oN Ij N3 N4 Ic BH IX GW Ha Mv Xl aa Md L2.Xi ur sr Ah Af Ae Ac Ab Aa z_ z9 Di vK ud xa ue r6 Au As Ar Aq Ap Ao Dk A6 A5 A4 AZ AY AX Ea yN yM yL yK yJ yI yH yG yF yE yD yC yB yA yz yy xk xj xi xh Bc sg uq vQ uo vP An Am Al Ak Aj Ai Dj xg xf Bq Bp Bo Bn Bm Bl Bk Bj Bi Bh Bg Bf Ec vR ux vS qu yO xo Ba A_ A7 vH vG vJ uc qU vI w5 pS vF wZ o4 tF rZ Bb vM vN ui xc tG sf se r_ xb vL qV r9 Bs Br Ee Ed xr oj oi sv sy Il XW Ux tHn tHt GL GZ N1 Es GN Ff GV IT IC IB G_ EE KS JC XR tHc tH0 Im Ie XU Ends.un Fv Ck Iu Xm ahg Xh IY IH DP IG Hz Up G7 IQ HE NF NG Ii EG ahh wC IM IL Nl Nk AF Ci ahp aho ahn ahm G4 G3 Jw Jv G8 ME MC KU Xj G0".splitOn " ").toArray.map fun n => (⟨Lean.mkIdent n.toName⟩ : Lean.TSyntax `term)
  let l := l ++ es.getElems
  `(tactic| simp only[$[$l:term],*])
local macro_rules | `(tactic| exists 9) => `(tactic| exists true_and)
section
variable {P:Program} {w:World} {K:W.Frag} {mg:Str->Option Value} {base:Heap}
variable (T:Txt K mg)
set_option hygiene false in
local macro_rules | `(tactic| exists 0, $a, $b, $d:ident) => `(tactic| (refine($a).fn ($b).1 ($b).2 (fun vs H Q E h => ?_) fun f cdv A outer s H vs Q E HR h => ?_; (unfold $d at h; split at h <;> first | rfl | exact h.elim); unfold $d at h; split at h; rotate_left; exact h.elim))
set_option hygiene false in
local macro_rules | `(tactic| exists 1, $a, $b, $d:ident) => `(tactic| (refine($a).fnX ($b).1 ($b).2 (fun vs H Q E h => ?_) fun f cdv A outer s H vs Q E HR h => ?_; (unfold $d at h; split at h <;> first | rfl | exact h.elim); unfold $d at h; split at h; rotate_left; exact h.elim))
theorem cg (T:Txt K mg):FA P w K mg base "is_from" 1 ["value","low","high"] p6:=by
 refine T.xA.fn zA.1 zA.2 (fun vs H Q E h=>?_) fun f a A outer s H vs Q E d h=>?_
 ·unfold p6 at h;split at h<;>first|rfl|exact h.elim
 ·
  unfold p6 at h;split at h
  ·
   rename_i v l h';refine⟨_,(aj (aF (bH (aL (kj K rfl) (by rfl) T.bf bg (cK (pv 0) (mS rfl T.AE AA))) (bH (zF (aL (kj K rfl) (by rfl) T.bf bg (cK (pv 0) (mS rfl T.xI y6)))) (jI (nG nI nI (pv 1) (pv 0) (pv 2))))))),?_⟩;exists 9;unfold b7 at h;by_cases c:l<=v
   ·
    rw[if_pos c];simpa only[c,decide_true,Bool.true_and] using h
   ·
    rw[if_neg c];simpa only[c,decide_false,Bool.false_and] using h
  ·
   rename_i l h';refine⟨_,(aj (aF (bH (aL (kj K rfl) (by rfl) T.bf bg (cK (pv 0) (mS rfl T.AE AA))) (bH (zF (aL (kj K rfl) (by rfl) T.bf bg (cK (pv 0) (mS rfl T.xI y6)))) (jI (nG nI nI (pv 1) (pv 0) (pv 2))))))),?_⟩;exists 9;exact WR ⟨false,rfl,h⟩
  ·
   rename_i z l h';refine⟨_,(aj (aF (bH (aL (kj K rfl) (by rfl) T.bf bg (cK (pv 0) (mS rfl T.AE AA))) (bH (zF (aL (kj K rfl) (by rfl) T.bf bg (cK (pv 0) (mS rfl T.xI y6)))) (jI (nG nI nI (pv 1) (pv 0) (pv 2))))))),?_⟩;exists 9;exact h
  ·exact h.elim
include T in theorem Nf:FA P w K mg base "need" 1 ["room","lag"] Cq:=by
 exists 0,T.Fb,Mn,Cq;rename_i r l;refine⟨_,(aj (aF (jh (cZ K HR (pv 0) au) (a9 K au (bz sX (pv 1) au)) (bz tZ (a9 K (bz j3 au (pv 0)) (pv 1)) au)))),?_⟩;exists 9;unfold lb at h;split
 ·rename_i c;rw[if_pos c] at h;exact h
 ·rename_i c;rw[if_neg c] at h;exact h
include T in theorem C0:FA P w K mg base "are_waits" 2 ["first","longest"] p7:=by
 exists 0,T.sE,Cw,p7;rename_i f l;refine⟨_,(aj (aF (bH (aW (cg T) HR (eQ (pv 1) (cK (b_ rfl T.ia) (b_ rfl T.sM)))) (jI (aW (cg T) HR (eQ (pv 0) (cK (b_ rfl T.ia) (pv 1)))))))),?_⟩;exists 9;by_cases c:2<=l/\l<=64
 ·
  rw[if_pos (yZ c)];have e:b7 f 2 l=decide ((2<=l/\l<=64)/\2<=f/\f<=l):=by rw[Bool.eq_iff_iff,pQ,decide_eq_true_eq];exact⟨fun k=>⟨c,k⟩,fun k=>k.2⟩
  rw[e];exact h
 ·
  rw[if_neg (by rw[Dg c];decide)];rw[decide_eq_false (fun k=>c k.1)] at h;exact h
include T in theorem tw:MA P w K mg base aA "__init__" 1 ["self","least"] (jE aA):=by
 exists 0,T.j5,tf,jE;rename_i e l;refine⟨_,(aj (vf T.sQ T.cI (pv 0) (pv 1))),?_⟩;obtain⟨he,q⟩:=h;exists he;exact⟨e,rfl,he,q⟩
include T in theorem C5:FA P w K mg base "are_rooms" 2 ["rooms"] p8:=by
 exists 0,T.sF,Cy,p8;rename_i p;refine⟨_,(aj (aF (bH (aL (km K rfl) (by rfl) T.bf bg (cK (pv 0) (mS rfl T.vY Ay))) (bH (l0 (l5 K rfl HR.units) (aL (bF K rfl) (by rfl) T.hV cF (bI (pv 0))) au) (jI (aL (lT K rfl rfl) (by rfl) T.vZ uL (bI (b8 (N:=(["room"]:List Str)) (nv:=1) (ix:=[]) rfl (iX (by kernel_rfl)) (bC K rfl (pv 0)) (fun _ _ _ _ _=>(a6 0 (show((["room"]:List Str)).Nodup by decide))) (fun _ _ _ _ _=>bR) (fun _ _ _ _ _=>(aW (cg T) HR (eQ (pv 0) (cK au (b_ rfl T.kZ))))))))))))),?_⟩;obtain⟨o,t,a,q⟩:=h;exists a;refine Fh (p:=fun _=>true) (f:=fun x=>match x with | .int i=> .bl (b7 i 1 16)|_=> .non) (n_.of a) (ba (by simp)) (fun x _ Q h=>h) (fun x hx _ Q h=>?_) ?_
 ·
  simp only[List.mem_cons,List.not_mem_nil,or_false] at hx;rcases hx with rfl|rfl<;>(exists 9;exact h)
 ·
  refine⟨ba (by simp),fun l d=>⟨[b7 o 1 16,b7 t 1 16],bO.of aa,?_⟩⟩;have:=q _ (af (o:= .lst [.bl (b7 o 1 16),.bl (b7 t 1 16)]) d);have e:([b7 o 1 16,b7 t 1 16].all id)=decide ((1<=o/\o<=16)/\1<=t/\t<=16):=by
   rw[Bool.eq_iff_iff,decide_eq_true_eq,<-pQ,<-pQ];simp
  rw[e];exact this
include T in theorem vm:MA P w K mg base aH "__init__" 3 ["self","ring","rooms","lag","first","longest"] (kz aH az aA):=by
 exists 1,T.lJ,oq,kz;rename_i x r p g f l;refine⟨_,(ae (bG (PT.nox (lA (PW.pt (pw_and (qS (aW (cg T) HR (eQ (pv 1) (cK au (b_ rfl T.sN))))) (pw_and (qS (aW (C5 T) HR (bI (pv 2)))) (pw_and1 (qS (aW (cg T) HR (eQ (pv 3) (cK au (b_ rfl T.lV))))))))))) (aj (BQ T.pY rH rfl rfl rfl)) bc)
 (bb (ae (bG (PT.nox (lA (qS (aW (C0 T) HR (cK (pv 4) (pv 5)))))) (aj (BQ T.pY rH rfl rfl rfl)) bc)
 (bb (ae (PS.nox (a8 6 oq.1.nd (aL (xF K rfl rfl) (by rfl) T.AB Az (bI (b8 (N:=(["room","lag"]:List Str)) (nv:=1) (ix:=[3]) rfl (iX (by kernel_rfl)) (bC K rfl (pv 2)) (fun _ _ _ _ _=>(a6 0 (show((["room","lag"]:List Str)).Nodup by decide))) (fun _ _ _ _ _=>bR) (fun _ _ _ _ _=>(aW (Nf T) HR (cK (pv 0) (pv 1)))))))))
 (bb (ae (bG (PT.nox (bN DT (pv 1) (pv 6))) (aj (nE T.sQ (tw T) T.t_ HR (by decide) rH rfl rfl rfl (bI (pv 6)))) bc)
 (bb (ae (PS.nox (aY (pv 0) (pv 1) T.bE T.h8))
 (ae (PS.nox (aY (pv 0) (pv 2) T.bE T.cH))
 (ae (PS.nox (aY (pv 0) (pv 3) T.bE T.hJ))
 (ae (PS.nox (aY (pv 0) (pv 4) T.bE T.jO))
 (aj (PS.nox (aY (pv 0) (pv 5) T.bE T.dF))))))))))))))),?_⟩
 obtain⟨o,t,dx,I,hx,q1,q2,q3⟩:=h;generalize h_u1:aP _=u1;exists 9;by_cases s:2<=r/\r<=64;rotate_left
 ·rw[if_neg (by rw[Dg s];decide)];exact q1 (fun hg=>s hg.1) H (a7.refl _)
 rw[if_pos (yZ s)];refine⟨o,t,I,fun v a=>?_⟩;by_cases z:(1<=o/\o<=16)/\1<=t/\t<=16;rotate_left
 ·rw[if_neg z];exact q1 (fun hg=>z hg.2.1) v a
 rw[if_pos z];by_cases m:1<=g/\g<=32;rotate_left
 ·rw[if_pos (Dg m)];exact q1 (fun hg=>m hg.2.2.1) v a
 rw[if_neg (by rw[yZ m];decide)];rw[<-h_u1,aP];generalize h_u2:aP _=u2;exists 9;by_cases n:(2<=l/\l<=64)/\2<=f/\f<=l;rotate_left
 ·rw[if_pos n];exact q1 (fun hg=>n hg.2.2.2) v a
 rw[if_neg (not_not_intro n)];have hg:good r o t g f l:=⟨s,z,m,n⟩;have E:=a _ _ I;have B:=a _ _ hx;rw[<-h_u2,aP];generalize h_u3:aP _=X;exists 9;refine Fh (p:=fun _=>true) (f:=fun x=>match x with | .int i=> .int (lb i g)|_=> .non) (n_.of E) (ba (by simp)) (fun x _ Q h=>h) (fun x hx _ Q h=>?_) ?_
 ·
  simp only[List.mem_cons,List.not_mem_nil,or_false] at hx;rcases hx with rfl|rfl<;>(exists 9;exact h)
 refine⟨ba (by simp),fun W j=>⟨[lb o g,lb t g],bO.of aa,by simp,fun M U hle=>?_⟩⟩;have O:M=oZ o t g:=by
  have h1:=hle (lb o g) (by simp);have Y:=hle (lb t g) (by simp);simp only[List.mem_cons,List.not_mem_nil,or_false] at U;unfold oZ;split<;>lia
 subst O;have G:a7 H _:=fun b u e=>af (o:= .lst ((([V.int o,V.int t]:List V).filter fun _=>true).map fun x=>match x with | .int i=> .int (lb i g)|_=> .non)) j b u (a b u e)
 have Nq:=Ft (o:= .lst ((([V.int o,V.int t]:List V).filter fun _=>true).map fun x=>match x with | .int i=> .int (lb i g)|_=> .non)) B j
 generalize upd v W (.lst ((([V.int o,V.int t]:List V).filter fun _=>true).map fun x=>match x with | .int i=> .int (lb i g)|_=> .non))=Z at*
 rw[<-h_u3,aP];generalize h_u4:aP _=u4;exists 9;by_cases y:r<oZ o t g
 ·
  rw[if_pos y];intro e he d hd;refine⟨_,rfl,?_⟩;obtain⟨s1,J⟩:=dropxl (C:=aA) (l:=[("least",.int (oZ o t g))]) G he hd;exact q2 hg y _ d s1 J
 rw[if_neg y];rw[<-h_u4,aP];exists Nq;refine q3 hg y _ ?_ aa;exact fun b o hb F=>by rw[ah F];exact G _ _ hb
include T in theorem vw:MA P w K mg base ay "__init__" 1 ["self","most"] (kI ay):=by
 exists 0,T.lR,vc,kI;rename_i p m;refine⟨_,(ae (aY (pv 0) (pv 1) T.qp T.qj)
 (ae (aY (pv 0) (aL (HN rfl) (by rfl) T.LX Xx (cK au (pv 1))) T.qp T.nM)
 (ae (aY (pv 0) (pv 1) T.qp T.qk)
 (aj (aY (pv 0) au T.qp T.mH))))),?_⟩
 obtain⟨dx,a,q⟩:=h;exists a;exact q
include T in theorem wH:MA P w K mg base aE "__init__" 1 ["self","first","longest"] (lh aE):=by
 exists 0,T.mI,wt,lh;rename_i p f l;refine⟨_,(ae (aY (pv 0) (pv 2) T.ub T.nJ)
 (ae (aY (pv 0) bh T.ub T.oW)
 (ae (aY (pv 0) bh T.ub T.oV)
 (aj (aY (pv 0) (pv 1) T.ub T.rP))))),?_⟩
 obtain⟨dx,a,q⟩:=h;exists a;exact q
include T in theorem rN:MA P w K mg base ag "many" 1 ["self"] (nj ag aE ay):=by
 exists 0,T.o_,zD,nj;rename_i x;refine⟨_,(aj (aF (aL (bF K rfl) (by rfl) T.hV cF (bI (aN (pv 0) T.bw T.iG))))),?_⟩;obtain⟨A,z,a,q⟩:=h;exists a.hx,a.ht;exact q
include T in theorem yr:MA P w K mg base ag "thing" 1 ["self","place"] (qL ag aE ay):=by
 exists 0,T.nY,yg,qL;rename_i x p;refine⟨_,(aj (aF (aZ K (aN (pv 0) T.bw T.iG) (pv 1)))),?_⟩;obtain⟨A,z,v,a,d,q⟩:=h;exists a.hx,a.ht;exact⟨v,d,q⟩
include T in theorem t7:MA P w K mg base ag "__init__" 3 ["self","ring","first","longest","most"] (jX ag aE ay):=by
 exists 0,T.kW,tX,jX;rename_i x r f l m;refine⟨_,(ae (aY (pv 0) (pv 1) T.bw T.oY)
 (ae (aY (pv 0) (rM T.ub (wH T) HR (by decide) rfl (cK (pv 2) (pv 3))) T.bw T.oX)
 (bb (ae (aY (pv 0) (rM T.qp (vw T) HR (by decide) rfl (bI (pv 4))) T.bw T.nK)
 (bb (ae (aY (pv 0) (bS jJ) T.bw T.iG)
 (ae (aY (pv 0) au T.bw T.jP)
 (ae (aY (pv 0) au T.bw T.kP)
 (ae (aY (pv 0) au T.bw T.l7)
 (ae (aY (pv 0) bh T.bw T.nL)
 (ae (aY (pv 0) zH T.bw T.i8)
 (bb (ae (aY (pv 0) vh T.bw T.i7)
 (bb (ae (aY (pv 0) vh T.bw T.jm)
 (bb (aj (aY (pv 0) vh T.bw T.jK)))))))))))))))))),?_⟩
 obtain⟨hf,dx,hx,q⟩:=h;generalize h_u1:aP _=u1;exists hx;intro pw dw y Q new;refine⟨dw,rfl,?_⟩;have a:x≠pw:=(fresh_ne y).symm;have ndx:x≠dw:=(fresh_ne Q).symm;exists ah a,ah ndx;obtain⟨U,Y⟩: ∃U,U=upd (upd (upd (upd H x (.ins ag dx (lB (.int r)))) dw (.own pw)) pw (.ins aE dw (qt (.int l) .non .non (.int f)))) x (.ins ag dx (mq (.int r) (.ref pw))):=⟨_,rfl⟩;rw[<-Y];rw[ah a.symm] at y;rw[ah ndx.symm] at Q;have I:U x=some (.ins ag dx (mq (.int r) (.ref pw))):=by rw[Y];exact aa
 have w1:U pw=some (.ins aE dw (qt (.int l) .non .non (.int f))):=by rw[Y,ah a.symm];exact aa
 have b1:cj x H U:=fun b o e n=>by rw[Y,ah n,ah (ax e y),ah (ax e Q),ah n];exact e
 clear Y;rw[<-h_u1,aP];generalize h_u2:aP _=u2;exists 9;intro pm dm v ndm nem;refine⟨dm,rfl,?_⟩;have d:x≠pm:=ax I v;have ndx2:x≠dm:=ax I ndm;exists ah d,ah ndx2,I;obtain⟨B,e2⟩: ∃B,B=upd (upd (upd U dm (.own pm)) pm (.ins ay dm (su (.int m) (.int (MeterM.mn 2 m)) (.int m) (.int 0)))) x (.ins ag dx (mm (.int r) (.ref pw) (.ref pm))):=⟨_,rfl⟩;rw[<-e2];have Nq:B x=some (.ins ag dx (mm (.int r) (.ref pw) (.ref pm))):=by rw[e2];exact aa
 have m2:B pm=some (.ins ay dm (su (.int m) (.int (MeterM.mn 2 m)) (.int m) (.int 0))):=by rw[e2,ah d.symm];exact aa
 have b2:cj x U B:=fun b o e n=>by rw[e2,ah n,ah (ax e v),ah (ax e ndm)];exact e
 have nwm:pw≠pm:=ax w1 v;have w2:=b2 _ _ w1 a.symm;clear e2;rw[<-h_u2,aP];generalize h_u3:aP _=u3;exists 9;intro pt O;have i:x≠pt:=ax Nq O;exists ah i,Nq;obtain⟨F,e3⟩: ∃F,F=upd (upd B pt (.lst [])) x (.ins ag dx (ml (.int r) (.ref pw) (.ref pm) (.ref pt) (.int 0) (.int 0) (.int 1) .non (.bl false))):=⟨_,rfl⟩;rw[<-e3];have hx3:F x=some (.ins ag dx (ml (.int r) (.ref pw) (.ref pm) (.ref pt) (.int 0) (.int 0) (.int 1) .non (.bl false))):=by rw[e3];exact aa
 have t3:F pt=some (.lst []):=by rw[e3,ah i.symm];exact aa
 have b3:cj x B F:=fun b o e n=>by rw[e3,ah n,ah (ax e O)];exact e
 clear e3;rw[<-h_u3,aP];generalize h_u4:aP _=u4;exists 9;intro pk G;have s:x≠pk:=ax hx3 G;exists ah s,hx3;obtain⟨E,Z⟩: ∃E,E=upd (upd F pk (.dK [])) x (.ins ag dx (kT (.int r) (.ref pw) (.ref pm) (.ref pt) (.int 0) (.int 0) (.int 1) .non (.bl false) (.ref pk))):=⟨_,rfl⟩;rw[<-Z];have hx4:E x=some (.ins ag dx (kT (.int r) (.ref pw) (.ref pm) (.ref pt) (.int 0) (.int 0) (.int 1) .non (.bl false) (.ref pk))):=by rw[Z];exact aa
 have k4:E pk=some (.dK []):=by rw[Z,ah s.symm];exact aa
 have b4:cj x F E:=fun b o e n=>by rw[Z,ah n,ah (ax e G)];exact e
 clear Z;rw[<-h_u4,aP];generalize h_u5:aP _=u5;exists 9;intro pf z;have u:x≠pf:=ax hx4 z;exists ah u,hx4;obtain⟨C,e5⟩: ∃C,C=upd (upd E pf (.dK [])) x (.ins ag dx (kS (.int r) (.ref pw) (.ref pm) (.ref pt) (.int 0) (.int 0) (.int 1) .non (.bl false) (.ref pk) (.ref pf))):=⟨_,rfl⟩;rw[<-e5];have hx5:C x=some (.ins ag dx (kS (.int r) (.ref pw) (.ref pm) (.ref pt) (.int 0) (.int 0) (.int 1) .non (.bl false) (.ref pk) (.ref pf))):=by rw[e5];exact aa
 have f5:C pf=some (.dK []):=by rw[e5,ah u.symm];exact aa
 have X:cj x E C:=fun b o e n=>by rw[e5,ah n,ah (ax e z)];exact e
 clear e5;rw[<-h_u5,aP];exists 9;intro pa j;have J:x≠pa:=ax hx5 j;exists ah J,hx5;have W:cj x C (upd (upd C pa (.dK [])) x (.ins ag dx (ki (.int r) (.ref pw) (.ref pm) (.ref pt) (.int 0) (.int 0) (.int 1) .non (.bl false) (.ref pk) (.ref pf) (.ref pa)))):=fun b o e n=>by rw[ah n,ah (ax e j)];exact e
 have k5:=X _ _ k4 s.symm;have fr: ∀b,b∈[pw,pm,pt,pk,pf,pa]->H b=none:=fun b hb=>by
  simp only[List.mem_cons,List.not_mem_nil,or_false] at hb;have B2:cj x H B:=fun b o e n=>b2 _ _ (b1 b o e n) n;have B3:cj x H F:=fun b o e n=>b3 _ _ (B2 b o e n) n;have B4:cj x H E:=fun b o e n=>b4 _ _ (B3 b o e n) n;have B5:cj x H C:=fun b o e n=>X _ _ (B4 b o e n) n;rcases hb with rfl|rfl|rfl|rfl|rfl|rfl
  ·exact y
  ·exact g_ b1 d v
  ·exact g_ B2 i O
  ·exact g_ B3 s G
  ·exact g_ B4 u z
  ·exact g_ B5 J j
 refine q ⟨dx,pw,pm,pt,pk,pf,pa,dw,dm⟩ _ (fun b o e n=>W _ _ (X _ _ (b4 _ _ (b3 _ _ (b2 _ _ (b1 b o e n) n) n) n) n) n) fr ⟨aa,W _ _ (X _ _ (b4 _ _ t3 i.symm) i.symm) i.symm,W _ _ k5 s.symm,W _ _ f5 u.symm,by rw[ah J.symm];exact aa,⟨by show 2<=l;lia,by show 2<=f/\f<=l;lia,.inl ⟨rfl,rfl,W _ _ (X _ _ (b4 _ _ (b3 _ _ w2 a.symm) a.symm) a.symm) a.symm⟩⟩,⟨W _ _ (X _ _ (b4 _ _ (b3 _ _ m2 d.symm) d.symm) d.symm) d.symm,?_⟩,ax k4 z,ax k5 j,ax f5 j,a,d,nwm⟩;show 1<=MeterM.mn 2 m/\MeterM.mn 2 m<=m/\(0:Int)<=0/\(0:Int)<MeterM.mn 2 m;unfold MeterM.mn;split<;>lia
include T in theorem vq:MA P w K mg base aB "__init__" 1 ["self","ring","room"] (kE aB):=by
 exists 0,T.lO,u_,kE;rename_i x r m;refine⟨_,(ae (aY (pv 0) (pv 1) T.jV T.qg)
 (ae (aY (pv 0) (pv 2) T.jV T.qf)
 (ae (aY (pv 0) au T.jV T.mi)
 (ae (aY (pv 0) au T.jV T.mh)
 (aj (aY (pv 0) vh T.jV T.qh)))))),?_⟩
 obtain⟨dx,hx,q⟩:=h;exists hx;intro d h1;have n1:x≠d:=(fresh_ne h1).symm;exists ah n1;have k1:H d=none:=by rw[ah n1.symm] at h1;exact h1
 refine q d _ k1 ?_ ⟨aa,?_⟩
 ·
  intro b o hb a;rw[ah a,ah (ax hb k1),ah a];exact hb
 ·rw[ah n1.symm,aa]
include T in theorem C7:MA P w K mg base aI "name" 1 ["self"] uS:=by
 exists 0,T.sH,CA,uS;rename_i x;refine⟨_,(aj (aF aT)),?_⟩;exists 9;exact h
include T in theorem yw:MA P w K mg base ar "name" 1 ["self"] qO:=by
 exists 0,T.n6,yj,qO;rename_i x;refine⟨_,(aj (aF aT)),?_⟩;exists 9;exact h
include T in theorem C8:MA P w K mg base aJ "name" 1 ["self"] uT:=by
 exists 0,T.sI,CB,uT;rename_i x;refine⟨_,(aj (aF aT)),?_⟩;exists 9;exact h
include T in theorem C9:MA P w K mg base aK "name" 1 ["self"] uU:=by
 exists 0,T.sJ,CC,uU;rename_i x;refine⟨_,(aj (aF aT)),?_⟩;exists 9;exact h
include T in theorem yt:MA P w K mg base ao "name" 1 ["self"] qM:=by
 exists 0,T.nZ,yh,qM;rename_i x;refine⟨_,(aj (aF aT)),?_⟩;exists 9;exact h
include T in theorem yq:MA P w K mg base ak "name" 1 ["self"] qK:=by
 exists 0,T.nX,yf,qK;rename_i x;refine⟨_,(aj (aF aT)),?_⟩;exists 9;exact h
include T in theorem yu:MA P w K mg base aq "name" 1 ["self"] qN:=by
 exists 0,T.n5,yi,qN;rename_i x;refine⟨_,(aj (aF aT)),?_⟩;exists 9;exact h
theorem ER (T:Txt K mg):FA P w K mg base "is_text" 1 ["text"] p0:=by
 refine T.xy.fn zz.1 zz.2 (fun vs H Q E h=>?_) fun f j A outer s H vs Q E F h=>?_
 ·unfold p0 at h;split at h<;>first|rfl|exact h.elim
 ·
  unfold p0 at h;split at h
  ·
   rename_i z;refine⟨_,(aj (aF (bH (aL (km K rfl) (by rfl) T.bf bg (cK (pv 0) (mS rfl T.oG mQ))) (bH (nG nI nI au (aL (bF K rfl) (by rfl) T.hV cF (bI (pv 0))) (b_ rfl T.mr)) (jI (aL (lT K rfl rfl) (by rfl) T.vZ uL (bI (b8 (N:=(["sign"]:List Str)) (nv:=1) (ix:=[]) rfl (iX (by kernel_rfl)) (bC K rfl (pv 0)) (fun _ _ _ _ _=>(a6 0 (show((["sign"]:List Str)).Nodup by decide))) (fun _ _ _ _ _=>bR) (fun _ _ _ _ _=>(sW (oU K rfl) (pv 0) (b_ rfl T.vX) (ju rfl))))))))))),?_⟩;obtain⟨v,q⟩:=h;exists 9;refine⟨ba v,?_⟩;by_cases d:1<=(z.length:Int);rotate_left
   ·
    rw[if_neg d];have e:xM z=false:=by unfold xM;rw[decide_eq_false (by lia)];rfl
    rw[<-e];exact q H (a7.refl _)
   rw[if_pos d];by_cases a:(z.length:Int)<=60;rotate_left
   ·
    rw[if_neg a];have e:xM z=false:=by unfold xM;rw[decide_eq_false (show¬z.length<=60 by lia),Bool.and_false];rfl
    rw[<-e];exact q H (a7.refl _)
   rw[if_pos a];refine LN (p:=fun _=>true) (f:=fun x=> .bl (XH x)) (by rw[sizeLine_eq];lia) (fun _ _ Q h=>h) (fun x hx _ Q B=>?_) ?_
   ·
    obtain⟨n,_,rfl⟩:=List.mem_map.mp hx;exists 9;exact B
   have u:(jH z).length=z.length:=by simp[jH,Str.length]
   have m:((jH z).filter fun _=>true).map (fun x=>V.bl (XH x))=((jH z).map XH).map V.bl:=by
    rw[List.filter_eq_self.mpr (fun _ _=>rfl),List.map_map];rfl
   rw[m];refine⟨by rw[List.length_map,List.length_map,u,sizeLine_eq];lia,fun p y=>⟨(jH z).map XH,bO.of aa,?_⟩⟩;have C:((jH z).map XH).all id=xM z:=by
    unfold xM;rw[decide_eq_true (show 1<=z.length by lia),decide_eq_true (show z.length<=60 by lia),List.all_map];rfl
   rw[C];exact q _ (af y)
  ·
   refine⟨_,(aj (aF (bH (aL (km K rfl) (by rfl) T.bf bg (cK (pv 0) (mS rfl T.oG mQ))) (bH (nG nI nI au (aL (bF K rfl) (by rfl) T.hV cF (bI (pv 0))) (b_ rfl T.mr)) (jI (aL (lT K rfl rfl) (by rfl) T.vZ uL (bI (b8 (N:=(["sign"]:List Str)) (nv:=1) (ix:=[]) rfl (iX (by kernel_rfl)) (bC K rfl (pv 0)) (fun _ _ _ _ _=>(a6 0 (show((["sign"]:List Str)).Nodup by decide))) (fun _ _ _ _ _=>bR) (fun _ _ _ _ _=>(sW (oU K rfl) (pv 0) (b_ rfl T.vX) (ju rfl))))))))))),?_⟩;exists 9;rw[MD];exact WQ ⟨false,rfl,h⟩
  ·
   rename_i i;refine⟨_,(aj (aF (bH (aL (km K rfl) (by rfl) T.bf bg (cK (pv 0) (mS rfl T.oG mQ))) (bH (nG nI nI au (aL (bF K rfl) (by rfl) T.hV cF (bI (pv 0))) (b_ rfl T.mr)) (jI (aL (lT K rfl rfl) (by rfl) T.vZ uL (bI (b8 (N:=(["sign"]:List Str)) (nv:=1) (ix:=[]) rfl (iX (by kernel_rfl)) (bC K rfl (pv 0)) (fun _ _ _ _ _=>(a6 0 (show((["sign"]:List Str)).Nodup by decide))) (fun _ _ _ _ _=>bR) (fun _ _ _ _ _=>(sW (oU K rfl) (pv 0) (b_ rfl T.vX) (ju rfl))))))))))),?_⟩;exists 9;exact h
  ·exact h.elim
include T in theorem pH:MA P w K mg base aC "__init__" 5 ["self","side","terms"] (lx aC aB ag aE ay aI ar aJ aK ao ak aq aH):=by
 exists 0,T.mO,wA,lx;rename_i x side tm;refine⟨_,(ae (aY (pv 0) (pv 1) T.bZ T.rR)
 (ae (aY (pv 0) (aN (pv 2) T.bE T.h8) T.bZ T.rS)
 (ae (aY (pv 0) (rM T.jV (vq T) HR (by decide) rfl (cK (aN (pv 2) T.bE T.h8) (aZ K (aN (pv 2) T.bE T.cH) (pv 1)))) T.bZ T.jx)
 (bb (ae (aY (pv 0) (rM T.bw (t7 T) HR (by decide) rfl (eQ (aN (pv 2) T.bE T.h8) (eQ (aN (pv 2) T.bE T.jO) (cK (aN (pv 2) T.bE T.dF) (aZ K (aN (pv 2) T.bE T.cH) (bz tZ au (pv 1))))))) T.bZ T.bT)
 (bb (ae (aY (pv 0) (U0 T.Dd T.Dc rfl) T.bZ T.mY)
 (ae (aY (pv 0) zH T.bZ T.i_)
 (aj (aY (pv 0) (bS jJ) T.bZ T.kQ)))))))))),?_⟩
 obtain⟨dx,r,o,t,g,f,l,hx,⟨dt,p,Z,hp⟩,hg,hs,q⟩:=h;have n1:tm≠x:=gC Z hx (by simp[js]);have n2:p≠x:=gC hp hx (by simp);obtain⟨g1,⟨g2,g3⟩,g4,g5,g6⟩:=hg;have own:x_ [V.int o,V.int t] side=some (.int (if side=0 then o else t))/\x_ [V.int o,V.int t] (1 - side)=some (.int (if side=0 then t else o)):=by
  rcases hs with rfl|rfl
  ·exact⟨by rw[if_pos rfl];exact AF,by rw[if_pos rfl];exact Ci⟩
  ·exact⟨by rw[if_neg (by decide)];exact Ci,by rw[if_neg (by decide)];exact AF⟩
 have ob:(1<=(if side=0 then o else t)/\(if side=0 then o else t)<=16)/\1<=(if side=0 then t else o):=by split<;>lia
 generalize(if side=0 then o else t)=mo at*
 generalize(if side=0 then t else o)=mt at*
 generalize h_u1:aP _=u1;exists hx,Z,ah n1,ah n2,hp,own.1;intro tk O E ndk nek;refine⟨O,rfl,fun kd Y s b1 t1=>?_⟩;have v:x≠tk:=fresh_ne E |>.symm;have xdk:x≠O:=fresh_ne ndk |>.symm;have x1:Y x=some (.ins aC dx (pU (.int side) (.int r))):=b1 _ _ (by rw[ah v,ah xdk,aa]) v;have B1: ∀b u,H b=some u->b≠x->Y b=some u:=fun b u e n=>by
  have e1:upd H x (.ins aC dx (pU (.int side) (.int r))) b=some u:=by rw[ah n];exact e
  exact b1 _ _ (by rw[ah (ax e1 E),ah (ax e1 ndk)];exact e1) (ax e1 E)
 have ftk:H tk=none:=by rw[ah v.symm] at E;exact E
 have z:H kd=none/\kd≠x:=by
  have k1:kd≠tk:=fresh_ne s;rw[ah k1] at s;have k2:kd≠O:=fresh_ne s;rw[ah k2] at s;have k3:kd≠x:=fresh_ne s;rw[ah k3] at s;exact⟨s,k3⟩
 clear b1 s;have W:=B1 _ _ Z n1;have hp1:=B1 _ _ hp n2;exists x1;have Q:cj x H (upd Y x (.ins aC dx (i5 (.int side) (.int r) (.ref tk)))):=fun b u e n=>by rw[ah n];exact B1 b u e n
 have x2:upd Y x (.ins aC dx (i5 (.int side) (.int r) (.ref tk))) x=some (.ins aC dx (i5 (.int side) (.int r) (.ref tk))):=aa;have t2:Bw aB (upd Y x (.ins aC dx (i5 (.int side) (.int r) (.ref tk)))) tk O kd ⟨r,mo,0,0,[]⟩:=⟨by rw[ah v.symm];exact t1.hx,by rw[ah z.2];exact t1.hD⟩;have htm2:upd Y x (.ins aC dx (i5 (.int side) (.int r) (.ref tk))) tm=some (.ins aH dt (js (.int r) (.ref p) (.int g) (.int f) (.int l))):=by rw[ah n1];exact W
 have hp2:upd Y x (.ins aC dx (i5 (.int side) (.int r) (.ref tk))) p=some (.tup [.int o,.int t]):=by rw[ah n2];exact hp1
 generalize upd Y x (.ins aC dx (i5 (.int side) (.int r) (.ref tk)))=H2 at*
 clear x1 t1 B1 W hp1;rw[<-h_u1,aP];generalize h_u2:aP _=u2;exists htm2,hp2,own.2;intro sd ds B nds nes;refine⟨⟨by lia,by lia,by lia⟩,ds,rfl,fun S J b3 fr3 s3=>?_⟩;have I:x≠sd:=ax x2 B;have B3: ∀b u,H2 b=some u->J b=some u:=fun b u e=>b3 _ _ (by rw[ah (ax e B),ah (ax e nds)];exact e) (ax e B);have j: ∀b,b∈[S.pw,S.pm,S.pt,S.pk,S.pf,S.pa]->H2 b=none/\b≠sd:=fun b hb=>by
  have k0:=fr3 b hb;have k1:b≠sd:=fresh_ne k0;rw[ah k1] at k0;have k2:b≠ds:=fresh_ne k0;rw[ah k2] at k0;exact⟨k0,k1⟩
 clear b3 fr3;have x3:=B3 _ _ x2;have t3:Bw aB J tk O kd ⟨r,mo,0,0,[]⟩:=⟨B3 _ _ t2.hx,B3 _ _ t2.hD⟩;exists x3;have X3:cj x H (upd J x (.ins aC dx (hG (.int side) (.int r) (.ref tk) (.ref sd)))):=fun b u e n=>by rw[ah n];exact B3 _ _ (Q b u e n)
 have x4:upd J x (.ins aC dx (hG (.int side) (.int r) (.ref tk) (.ref sd))) x=some (.ins aC dx (hG (.int side) (.int r) (.ref tk) (.ref sd))):=aa;have X: ∀b,b∈[S.pw,S.pm,S.pt,S.pk,S.pf,S.pa]->b≠x:=fun b hb e=>by have:=(j b hb).1;rw[e,x2] at this;cases this
 have k4:Kp [x] J (upd J x (.ins aC dx (hG (.int side) (.int r) (.ref tk) (.ref sd)))):=Kp.one;have s4:AH ag aE ay (upd J x (.ins aC dx (hG (.int side) (.int r) (.ref tk) (.ref sd)))) sd S _:=s3.kp k4 (fun b hb m=>by
  rw[List.mem_singleton] at m;rcases List.mem_cons.mp hb with e|hb
  ·exact I (m.symm.trans e)
  ·exact X b hb m) (fun t l e m=>by rw[List.mem_singleton.mp m,x3] at e;cases e)
 have t4:Bw aB (upd J x (.ins aC dx (hG (.int side) (.int r) (.ref tk) (.ref sd)))) tk O kd ⟨r,mo,0,0,[]⟩:=⟨by rw[ah v.symm];exact t3.hx,by rw[ah z.2];exact t3.hD⟩;generalize upd J x (.ins aC dx (hG (.int side) (.int r) (.ref tk) (.ref sd)))=H4 at*
 rw[<-h_u2,aP];exists 9;intro st dst nst ndst nest;have S5:a7 H4 _:=jM (C:=aI) (fs:=[]) nst ndst;have st5:XD (tbl aI ar aJ aK ao ak aq) (upd (upd H4 dst (.own st)) st (.ins aI dst [])) st "shut" :=⟨_,_,aa,.head _⟩;have x5:=S5 _ _ x4;have i:=s4.same S5;have t5:=t4.same S5;have X5:cj x H _:=fun b u e n=>S5 _ _ (X3 b u e n);generalize upd (upd H4 dst (.own st)) st (.ins aI dst [])=H5 at*
 exists x5;intro pe npe;have F:x≠pe:=(fresh_ne npe).symm;exists ah F;have G:H5 pe=none:=by rw[ah F.symm] at npe;exact npe
 have nod:(foot x ⟨dx,tk,O,kd,sd,S,st,pe⟩).Nodup:=by
  have n_tk:tk≠x:=v.symm;have in2: ∀{b:Addr} {u:HO},H2 b=some u->b ∉ [S.pw,S.pm,S.pt,S.pk,S.pf,S.pa]/\b≠sd:=fun{b u} e=>⟨(fun m=>by have:=(j b m).1;rw[e] at this;cases this),ax e B⟩;have a: ∀{b:Addr} {u:HO},H5 b=some u->b≠pe:=fun e=>ax e G;obtain⟨em,_⟩:=i.ms;obtain⟨_,_,ew⟩:=i.ws.ins;have kx:=in2 x2;have kt:=in2 t2.hx;have U:=in2 t2.hD;have y:sd ∉ [S.pw,S.pm,S.pt,S.pk,S.pf,S.pa]:=fun m=>(j sd m).2 rfl;have m1:S.pm≠S.pt:=gC em i.ht (by simp);have m2:S.pm≠S.pk:=gC em i.hk (by simp);have m3:S.pm≠S.pf:=gC em i.hf (by simp);have m4:S.pm≠S.pa:=gC em i.ha (by simp);have w1:S.pw≠S.pt:=gC ew i.ht (by simp);have w2:S.pw≠S.pk:=gC ew i.hk (by simp);have w3:S.pw≠S.pf:=gC ew i.hf (by simp);have w4:S.pw≠S.pa:=gC ew i.ha (by simp);have v1:S.pt≠S.pk:=gC i.ht i.hk (by simp);have v2:S.pt≠S.pf:=gC i.ht i.hf (by simp);have v3:S.pt≠S.pa:=gC i.ht i.ha (by simp);simp only[List.mem_cons,List.not_mem_nil,or_false,not_or] at kx kt U y;simp only[foot,List.nodup_cons,List.mem_cons,List.not_mem_nil,or_false,not_or,List.nodup_nil,and_true,not_false_eq_true];have tkd:tk≠kd:=t2.n1.symm;exact⟨⟨v,z.2.symm,I,kx.1.1,kx.1.2.1,kx.1.2.2.1,kx.1.2.2.2.1,kx.1.2.2.2.2.1,kx.1.2.2.2.2.2,F⟩,
   ⟨tkd,kt.2,kt.1.1,kt.1.2.1,kt.1.2.2.1,kt.1.2.2.2.1,kt.1.2.2.2.2.1,kt.1.2.2.2.2.2,a t5.hx⟩,
   ⟨U.2,U.1.1,U.1.2.1,U.1.2.2.1,U.1.2.2.2.1,U.1.2.2.2.2.1,U.1.2.2.2.2.2,a t5.hD⟩,
   ⟨y.1,y.2.1,y.2.2.1,y.2.2.2.1,y.2.2.2.2.1,y.2.2.2.2.2,a i.hx⟩,
   ⟨i.wm,w1,w2,w3,w4,a ew⟩,⟨m1,m2,m3,m4,a em⟩,⟨v1,v2,v3,a i.ht⟩,⟨i.kf,i.ka,a i.hk⟩,⟨i.fa,a i.hf⟩,a i.ha⟩
 have kF:Kp [x] H5 (upd (upd (upd H5 x (.ins aC dx (sZ (.int side) (.int r) (.ref tk) (.ref sd) (.ref st) (.bl false)))) pe (.lst [])) x (.ins aC dx (mZ (.int side) (.int r) (.ref tk) (.ref sd) (.ref st) (.bl false) (.ref pe)))):=fun b u e n=>by
  rw[List.mem_singleton] at n;rw[ah n,ah (ax e G),ah n];exact e
 refine q ⟨dx,tk,O,kd,sd,S,st,pe⟩ _ (fun b u e n=>kF b u (X5 b u e n) (fun m=>n (List.mem_singleton.mp m))) (fun b hb=>?_) ⟨aa,⟨kF _ _ t5.hx (fun m=>v (List.mem_singleton.mp m).symm),kF _ _ t5.hD (fun m=>z.2 (List.mem_singleton.mp m))⟩,i.kp kF (fun b hb m=>?_) (fun t l e m=>?_),?_,?_,nod⟩
 ·
  simp only[foot,List.tail_cons,List.mem_cons,List.not_mem_nil,or_false] at hb;rcases hb with e|e|e|e|e|e|e|e|e|e
  ·rw[e];exact ftk
  ·rw[e];exact z.1
  ·rw[e];exact g_ Q I B
  ·rw[e];exact g_ Q (X _ (by simp)).symm (j _ (by simp)).1
  ·rw[e];exact g_ Q (X _ (by simp)).symm (j _ (by simp)).1
  ·rw[e];exact g_ Q (X _ (by simp)).symm (j _ (by simp)).1
  ·rw[e];exact g_ Q (X _ (by simp)).symm (j _ (by simp)).1
  ·rw[e];exact g_ Q (X _ (by simp)).symm (j _ (by simp)).1
  ·rw[e];exact g_ Q (X _ (by simp)).symm (j _ (by simp)).1
  ·rw[e];exact g_ X5 F G
 ·
  rw[List.mem_singleton] at m;rcases List.mem_cons.mp hb with e|hb
  ·exact I (m.symm.trans e)
  ·exact X b hb m
 ·rw[List.mem_singleton.mp m,x5] at e;cases e
 ·
  obtain⟨C,d,e,hm⟩:=st5;exact⟨C,d,kF _ _ e (fun m=>by have m':st=x:=List.mem_singleton.mp m;rw[m',x5] at e;injection e with e;injection e with _ _ e;simp[hG] at e),hm⟩
 ·rw[ah F.symm,aa];rfl
theorem Io {aI ar aJ aK ao ak aq:Addr} {C:Addr} {nm:Str} (h:(C,nm)∈tbl aI ar aJ aK ao ak aq):(C=aI/\nm = "shut")\/(C=ar/\nm = "calling")\/(C=aJ/\nm = "open")\/(C=aK/\nm = "left")\/(C=ao/\nm = "leaving")\/(C=ak/\nm = "waiting")\/(C=aq/\nm = "closing"):=by
 simpa [tbl] using h
theorem Hl (T:Txt K mg):XC P w K mg base (HY P w) "name" 1 (wo aI ar aJ aK ao ak aq):=by
 intro x H Q E h;unfold wo at h;split at h;rotate_left
 ·exact h.elim
 rename_i x e;obtain⟨nm,d,q⟩:=h;have i:=d;obtain⟨C,dx,hx,hm⟩:=d;injection e with a _;rcases Io hm with⟨rfl,rfl⟩|⟨rfl,rfl⟩|⟨rfl,rfl⟩|⟨rfl,rfl⟩|⟨rfl,rfl⟩|⟨rfl,rfl⟩|⟨rfl,rfl⟩
 ·exact⟨x,_,dx,_,_,_,_,a,hx,rfl,by decide,T.Dd.cl,C7 T,q⟩
 ·exact⟨x,_,dx,_,_,_,_,a,hx,rfl,by decide,T.wV.cl,yw T,q⟩
 ·exact⟨x,_,dx,_,_,_,_,a,hx,rfl,by decide,T.E2.cl,C8 T,q⟩
 ·exact⟨x,_,dx,_,_,_,_,a,hx,rfl,by decide,T.E3.cl,C9 T,q⟩
 ·exact⟨x,_,dx,_,_,_,_,a,hx,rfl,by decide,T.wR.cl,yt T,q⟩
 ·exact⟨x,_,dx,_,_,_,_,a,hx,rfl,by decide,T.wQ.cl,yq T,q⟩
 ·exact⟨x,_,dx,_,_,_,_,a,hx,rfl,by decide,T.wU.cl,yu T,q⟩
include T in theorem vx:MA P w K mg base aC "name" 2 ["self"] (p_ aC aB ag aE ay aI ar aJ aK ao ak aq):=by
 exists 0,T.sL,CD,p_;rename_i x;refine⟨_,(aj (aF (UW (aN (pv 0) T.bZ T.mY) (Hl T) HR (by decide)))),?_⟩;obtain⟨A,z,a,q⟩:=h;exists a.hx;exact⟨_,a.st,q⟩
include T in theorem AW:MA P w K mg base aC "quiet" 2 ["self"] (oQ aC aB ag aE ay aI ar aJ aK ao ak aq):=by
 exists 0,T.qD,AO,oQ;rename_i x;refine⟨_,(aj (aF (bH (nG (l5 K rfl HR.units) (l5 K rfl HR.units) (aN (aN (pv 0) T.bZ T.bT) T.bw T.jP) (aN (aN (pv 0) T.bZ T.bT) T.bw T.kP) (jT (aN (pv 0) T.bZ T.bT) T.bw (rN T) HR)) (jI (zF (aN (pv 0) T.bZ T.i_)))))),?_⟩;obtain⟨A,z,i,q⟩:=h;exists i.hx,i.sd.hx;by_cases d:z.sd.b=z.sd.t
 ·
  rw[if_pos d];refine⟨_,_,i.sd,?_⟩;rw[decide_eq_true d,Bool.true_and] at q;by_cases a:z.sd.t=(z.sd.T.length:Int)
  ·rw[if_pos a];rw[decide_eq_true a,Bool.true_and] at q;exact q
  ·rw[if_neg a];rw[decide_eq_false a,Bool.false_and] at q;exact q
 ·rw[if_neg d];rw[decide_eq_false d,Bool.false_and,Bool.false_and] at q;exact q
include T in theorem mT:MA P w K mg base av "__init__" 1 ["self","at"] (jG av):=by
 exists 0,T.j7,tu,jG;rename_i e l;refine⟨_,(aj (vf T.pA T.iZ (pv 0) (pv 1))),?_⟩;obtain⟨he,q⟩:=h;exists he;exact⟨e,rfl,he,q⟩
include T in theorem ET:FA P w K mg base "is_copy" 2 ["copy","lag"] tU:=by
 exists 0,T.xC,EA,tU;rename_i c lag;refine⟨_,(aj (aF (bH (aL (kj K rfl) (by rfl) T.bf bg (cK (pv 0) (mS rfl T.vY Ay))) (bH (l0 (l5 K rfl HR.units) (aL (m9 K rfl) (by rfl) T.hV cF (bI (pv 0))) au) (bH (aW (cg T) HR (eQ (vg K (pv 0) au) (cK au (pv 1)))) (bH (aW (cg T) HR (eQ (vg K (pv 0) au) (cK au (b_ rfl T.qF)))) (jI (aW (cg T) HR (eQ (vg K (pv 0) au) (cK au (b_ rfl T.uK))))))))))),?_⟩;obtain⟨d,p,r,hc,q⟩:=h;exists hc;refine F8 hc ⟨true,rfl,?_⟩;rw[if_pos rfl];refine⟨_,.inr (n_.of hc),?_⟩;rw[if_pos (by simp)];refine yX (n_.of hc) rfl ?_;unfold xZ at q;exists 9;by_cases i:b7 d 1 lag=true;rotate_left
 ·
  rw[if_neg i];rw[Bool.not_eq_true] at i;rw[i,Bool.false_and,Bool.false_and] at q;exact q
 rw[if_pos i];rw[i,Bool.true_and] at q;refine yX (n_.of hc) rfl ?_;exists 9;by_cases a:b7 p 0 66=true;rotate_left
 ·
  rw[if_neg a];rw[Bool.not_eq_true] at a;rw[a,Bool.false_and] at q;exact q
 rw[if_pos a];rw[a,Bool.true_and] at q;exact yX (n_.of hc) rfl q
noncomputable def cpV (H:Hp) (lag:Int) (v:V):V:=match v with
 | .ref c=>match H c with
  |some (.tup [.int d,.int p,.int r])=> .bl (xZ d p r lag)
  |_=> .non
 |_=> .non
theorem LL {H:Hp} {lag:Int} {c:Addr} {d p r:Int} (h:Cj H c d p r):cpV H lag (.ref c) = .bl (xZ d p r lag):=by
 have h':H c=some (.tup [.int d,.int p,.int r]):=h;simp only[cpV,h']
theorem NN {H:Hp} {lag:Int} {cs:List Addr} {a:List Cp} (h:Paired (fun c (d:Cp)=>Cj H c d.1 d.2.1 d.2.2) cs a):(cs.map V.ref).map (cpV H lag)=(a.map fun d=>xZ d.1 d.2.1 d.2.2 lag).map V.bl:=by
 induction h with
 |nil=>rfl
 |cons r _ i=>
  rw[List.map_cons,List.map_cons,List.map_cons,List.map_cons,i];have e:=LL (lag:=lag) r;rw[e]
include T in theorem ES:FA P w K mg base "is_deed" 3 ["deed","lag"] tT:=by
 exists 0,T.xB,Ez,tT;rename_i x lag;refine⟨_,(aj (aF (bH (l0 nI (aL (m9 K rfl) (by rfl) T.hV cF (bI (pv 0))) (b_ rfl T.pq)) (jI (aL (lT K rfl rfl) (by rfl) T.vZ uL (bI (b8 (N:=(["copy","lag"]:List Str)) (nv:=1) (ix:=[1]) rfl (iX (by kernel_rfl)) (bC K rfl (pv 0)) (fun _ _ _ _ _=>(a6 0 (show((["copy","lag"]:List Str)).Nodup by decide))) (fun _ _ _ _ _=>bR) (fun _ _ _ _ _=>(aW (ET T) HR (cK (pv 0) (pv 1))))))))))),?_⟩;obtain⟨m,⟨cs,h1,a,n⟩,q⟩:=h;have ln:=ji a;exists 9;refine⟨_,.inl (bO.of h1),?_⟩;rw[List.length_map,ln];unfold oE at q;by_cases c:m.length<=3;rotate_left
 ·
  rw[if_neg (by lia)];rw[decide_eq_false c,Bool.false_and] at q;exact q _ (a7.refl _)
 rw[if_pos (by lia)];rw[decide_eq_true c,Bool.true_and] at q;refine kY (p:=fun _=>true) (f:=cpV H lag) (bO.of h1) (ba (by rw[List.length_map,ln];exact n)) (fun x _ Q h=>h) (fun y v _ Q h=>?_) ?_
 ·
  obtain⟨z,j,rfl⟩:=List.mem_map.mp v;obtain⟨i,u⟩:=List.getElem?_of_mem j;obtain⟨d,_,hd⟩:=qe a u;rw[LL hd] at h;exists 9;exact⟨_,_,_,hd,h⟩
 rw[List.filter_eq_self.mpr (by simp),NN a];refine⟨ba (by rw[List.length_map,List.length_map];exact n),fun l s=>⟨_,bO.of aa,?_⟩⟩;have e:(m.map fun d=>xZ d.1 d.2.1 d.2.2 lag).all id=m.all fun d=>xZ d.1 d.2.1 d.2.2 lag:=by rw[List.all_map];rfl
 rw[e];exact q _ (af s)
include T in theorem tM:FA P w K mg base "check_road" 4 ["deeds","lag"] (oI av):=by
 exists 1,T.qw,oR,oI;rename_i x lag;refine⟨_,(ae (bG (PT.nox (PW.pt (pw_or (lA (qS (aW (cg T) HR (eQ (pv 1) (cK au (b_ rfl T.lW)))))) (pw_or1 (bN BS (aL (m9 K rfl) (by rfl) T.hV cF (bI (pv 0))) (b_ rfl T.qG)))))) (aj (nE T.pA (mT T) T.qm HR (by decide) rH rfl rfl rfl (bI bh))) bc)
 (aj (PS.fly rH Iw (rL (zI rfl rfl) rfl (CQ rfl T.mv (bI (pv 0))) (sV K (n:=2) rfl rfl (mR (a6 2 oR.1.nd) (mR (a6 3 oR.1.nd) sU))) (aj (bG (PT.nox (lA (qS (aW (ES T) HR (cK (pv 3) (pv 1)))))) (aj (nE T.pA (mT T) T.qm HR (by decide) Iv rfl rfl rfl (bI (pv 2)))) bc)))))),?_⟩
 obtain⟨G,hR,q1,q2,q3⟩:=h;have J:=hR;obtain⟨xs,h1,W,h3⟩:=J;have ln:=ji W;exists 9;by_cases s:b7 lag 1 60=false
 ·
  rw[if_pos s];intro e he d hd;obtain⟨s1,F⟩:=dropx (C:=av) (f:="at") (v:= .non) (a7.refl H) he hd;exact⟨_,rfl,q2 (.inl s) _ d s1 F⟩
 rw[if_neg s];rw[Bool.not_eq_false] at s;refine⟨_,.inl (bO.of h1),?_⟩;rw[List.length_map,ln];by_cases c2:60<G.length
 ·
  rw[if_pos (by lia)];intro e he d hd;obtain⟨s1,F⟩:=dropx (C:=av) (f:="at") (v:= .non) (a7.refl H) he hd;exact⟨_,rfl,q2 (.inr c2) _ d s1 F⟩
 rw[if_neg (by lia)];refine Gp h1 (fun i σ H'=>a7 H H'/\(∀j<i,∀m,G[j]?=some m->oE lag m=true)/\∃Q O,σ= [some (V.ref x),some (V.int lag),Q,O]) ⟨a7.refl _,(fun j Y=>absurd Y (by lia)),none,none,rfl⟩ (fun i σ H' _ h=>h.1 _ _ h1) (fun i y pt σ H' Z h u=>?_) (fun σ H' h=>?_)
 ·
  obtain⟨sm,ok,Q,O,rfl⟩:=h;rw[List.getElem?_map] at Z;obtain⟨y,ey,rfl⟩:=Option.map_eq_some_iff.mp Z;obtain⟨m,I,hD⟩:=qe W ey;exists aa;refine⟨m,(hD.same sm).same (af u),fun H2 F=>?_⟩;have B:=(sm.trans (af u)).trans F;by_cases E:oE lag m=false
  ·
   rw[if_pos E];intro e he d hd;obtain⟨s3,s4⟩:=dropx (C:=av) (f:="at") (v:= .int i) B he hd;exact⟨_,rfl,q3 s (by lia) i m I E ok _ d s3 s4⟩
  rw[if_neg E];rw[Bool.not_eq_false] at E;refine⟨B,fun j Y U a=>?_,_,_,rfl⟩;by_cases z:j=i
  ·
   subst z;rw[I] at a;cases a;exact E
  ·exact ok j (by lia) U a
 ·
  obtain⟨sm,ok,Q,O,rfl⟩:=h;rw[List.length_map,ln] at ok;refine q1 s (by lia) (fun m hd=>?_) _ sm;obtain⟨i,X⟩:=List.getElem?_of_mem hd;exact ok i (List.getElem?_eq_some_iff.mp X).1 m X
theorem none_of {H H':Hp} {l:Addr} (sm:a7 H H') (nl:H' l=none):H l=none:=by
 cases e:H l with
 |none=>rfl
 |some o=>rw[sm _ _ e] at nl;cases nl
include T in theorem wG:FA P w K mg base "copied" 1 ["deeds"] wj:=by
 exists 0,T.Ax,GR,wj;rename_i x;refine⟨_,(aj (aF (b8 (N:=(["deed"]:List Str)) (nv:=1) (ix:=[]) rfl (iX (by kernel_rfl)) (bC K rfl (pv 0)) (fun _ _ _ _ _=>(a6 0 (show((["deed"]:List Str)).Nodup by decide))) (fun _ _ _ _ _=>bR) (fun _ _ _ _ _=>(cb (uJ K rfl) (by rfl) T.AD Ds (bI (pv 0))))))),?_⟩;obtain⟨s,⟨xs,h1,B,z⟩,q⟩:=h;have ln:=ji B;exists 9;refine vW (bO.of h1) (ba (by rw[List.length_map,ln];exact z)) (fun i m σ H'=>a7 H H'/\∃zs:List Addr,m=zs.map V.ref/\Paired (fun x n=>H x=none/\og H' x n) zs (s.take i)/\∃v,σ= [v]) ⟨a7.refl _,[],rfl,.nil,none,rfl⟩ (fun i m σ H' hh=>?_) (fun i m σ H' hh=>bO.of (hh.1 _ _ h1)) (fun i y m σ H' C hh=>?_) (fun m σ H' hh=>?_)
 ·
  obtain⟨_,zs,e,p,_⟩:=hh;rw[e,List.length_map,ji p];exact List.length_take_le _ _
 ·
  obtain⟨sm,zs,e,p,v,j⟩:=hh;subst j e;rw[List.getElem?_map] at C;obtain⟨y,F,rfl⟩:=Option.map_eq_some_iff.mp C;obtain⟨n,u,hD⟩:=qe B F;obtain⟨cs,d1,G,E⟩:=hD.same sm;exists 9;refine⟨_,.inl (bO.of d1),fun l nl=>⟨sm.trans (af nl),zs++ [l],by simp,?_⟩⟩;rw[List.take_add_one,u];refine⟨?_,_,rfl⟩;exact DR (R:=fun x n=>H x=none/\og (upd H' l (.lst (cs.map V.ref))) x n) (y:=n) (bq p fun a b q=>⟨q.1,q.2.same (af nl)⟩) ⟨none_of sm nl,cs,aa,bq G (fun c d q=>Ft q nl),E⟩
 ·
  obtain⟨sm,zs,e,p,v,j⟩:=hh;subst j e;rw[List.length_map,ln,List.take_length] at p;exact⟨ba (by rw[List.length_map,ji p];exact z),fun l nl=>q l _ (sm.trans (af nl)) ⟨none_of sm nl,zs,aa,bq p fun a b r=>⟨r.1,r.2.same (af nl)⟩,z⟩⟩
theorem og.but {C:Addr} {H H':Hp} {r x dx:Addr} {fs:List (Str×V)} {a:List Cp} (h:og H x a) (b:cj r H H') (hr:H r=some (.ins C dx fs)):og H' x a:=by
 obtain⟨cs,h1,i,j⟩:=h;refine⟨cs,b _ _ h1 (fun z=>by rw[z,hr] at h1;cases h1),bq i fun c d q=>b _ _ q (fun z=>?_),j⟩;unfold Cj at q;rw[z,hr] at q;cases q
include T in theorem pG:MA P w K mg base aG "__init__" 5 ["self","deeds","lag"] (lu aG av):=by
 exists 1,T.mN,wz,lu;rename_i r x lag;refine⟨_,(ae (jf (Jj (tM T) HR (by decide) rfl rH rfl (cK (pv 1) (pv 2))))
 (ae (PS.nox (aY (pv 0) (aW (wG T) HR (bI (pv 1))) T.qo T.qi))
 (ae (PS.nox (aY (pv 0) au T.qo T.mG))
 (aj (PS.nox (aY (pv 0) (bS jJ) T.qo T.l8)))))),?_⟩
 obtain⟨s,dx,I,hr,q1,q2,q3⟩:=h;exists 9;refine⟨s,I,fun g1 W X H1 s1=>⟨s,I.same s1,fun j B G Q=>?_⟩,q2,q3⟩;have i:=G _ _ (s1 _ _ hr);have C:=s1.trans G;refine⟨dx,_,i,by decide,?_,fun pc d=>?_⟩
 ·rw[o5];exact Be
 rw[o5,tO] at d;rw[o5,tO];have E:r≠pc:=fun z=>by rw[<-z,aa] at d;cases d
 refine⟨dx,_,by rw[ah E,aa],Bd,?_⟩;rw[Eb];obtain⟨n0,xs,v,O,J⟩:=Q;have F:cj r B (upd (upd (upd B r (.ins aG dx (lD (.ref j) (.int 0)))) pc (.lst [])) r (.ins aG dx (oC (.ref j) (.int 0) (.ref pc)))):=((cj.upd).new d).write;have U:upd (upd (upd B r (.ins aG dx (lD (.ref j) (.int 0)))) pc (.lst [])) r (.ins aG dx (oC (.ref j) (.int 0) (.ref pc))) pc=some (.lst []):=by rw[ah (Ne.symm E),aa]
 have Y:=aa (H:=upd (upd B r (.ins aG dx (lD (.ref j) (.int 0)))) pc (.lst [])) (a:=r) (o:= .ins aG dx (oC (.ref j) (.int 0) (.ref pc)));generalize upd (upd (upd B r (.ins aG dx (lD (.ref j) (.int 0)))) pc (.lst [])) r (.ins aG dx (oC (.ref j) (.int 0) (.ref pc)))=HF at*
 have m:=HG d;have n:=F _ _ v (fun z=>by rw[z,i] at v;cases v);refine q1 g1 W X HF j pc (fun b o e ne=>F b o (C b o e) ne) ⟨none_of s1 n0,xs,n,bq O fun y Z q=>⟨none_of s1 q.1,q.2.but F i⟩,J⟩ (none_of C m) ⟨Y,⟨xs,n,bq O fun y Z q=>⟨(fun z=>by obtain⟨_,u,_⟩:=q.2;rw[z,m] at u;cases u),q.2.but F i⟩,J⟩,⟨[],U,.nil⟩,?_⟩;intro z;rw[z,m] at v;cases v
include T in theorem vt:MA P w K mg base aG "under_way" 1 ["self"] (kG aG):=by
 exists 0,T.lP,va,kG;rename_i r;refine⟨_,(aj (aF (aL (m9 K rfl) (by rfl) T.hV cF (bI (aN (pv 0) T.qo T.l8))))),?_⟩;obtain⟨dx,j,pc,i,sn,ms,a,q⟩:=h;obtain⟨cs,hc,d⟩:=a.hc;exists a.hr;exact⟨_,.inl (bO.of hc),by rw[List.length_map,ji d];exact q⟩
include T in theorem tx:MA P w K mg base aw "__init__" 1 ["self","at"] (jF aw):=by
 exists 0,T.j6,tj,jF;rename_i e v;refine⟨_,(aj (vf T.sR T.iY (pv 0) (pv 1))),?_⟩;obtain⟨he,q⟩:=h;exists he;exact⟨e,rfl,he,q⟩
theorem in_words {k:Str}:HX (.str k) [.str (Str.ofString "begin"),.str (Str.ofString "end")]=(decide (k = "begin")||decide (k = "end")):=by
 show(((Str.ofString "begin") == k)||(((Str.ofString "end") == k)||false))=_;rw[Bool.or_false];congr 1
 ·rw[Bool.eq_iff_iff,beq_iff_eq,decide_eq_true_eq];exact⟨fun h=>h.symm,fun h=>h.symm⟩
 ·rw[Bool.eq_iff_iff,beq_iff_eq,decide_eq_true_eq];exact⟨fun h=>h.symm,fun h=>h.symm⟩
include T in theorem DY:FA P w K mg base "is_value" 2 ["word","value"] rn:=by
 exists 0,T.uE,DJ,rn;rename_i k v;refine⟨_,(ae (bG (cZ K HR (pv 0) aT) (aj (aF (aW (ER T) HR (bI (pv 1))))) bc)
 (ae (bG (cZ K HR (pv 0) aT) (aj (aF (aW (cg T) HR (eQ (pv 1) (cK au (b_ rfl T.sP)))))) bc)
 (aj (aF (bH (sW (oU K rfl) (pv 0) (j2 (cK aT aT)) (ju rfl)) (jI (l0 jU (pv 1) bh))))))),?_⟩
 obtain⟨m,q⟩:=h;unfold Uq at q;by_cases a:k=Str.ofString "put"
 ·
  rw[if_pos a] at q;rcases m with rfl|⟨i,rfl⟩|⟨z,rfl,j⟩
  ·
   exists 9;rw[if_pos a];exact q H (a7.refl _)
  ·
   exists 9;rw[if_pos a];exact q H (a7.refl _)
  ·
   exists 9;rw[if_pos a];exact⟨j,q⟩
 ·
  rw[if_neg a] at q;by_cases d:k=Str.ofString "read"
  ·
   rw[if_pos d] at q;rcases m with rfl|⟨i,rfl⟩|⟨z,rfl,j⟩
   ·
    exists 9;rw[if_neg a,if_pos d];exact q H (a7.refl _)
   ·
    exists 9;rw[if_neg a,if_pos d];exact q H (a7.refl _)
   ·
    exists 9;rw[if_neg a,if_pos d];exact q H (a7.refl _)
  ·
   rw[if_neg d] at q;exists 9;rw[if_neg a,if_neg d];intro p n;have sm:=af (o:= .tup [V.str (Str.ofString "begin"),V.str (Str.ofString "end")]) n;refine⟨_,.inr (n_.of aa),rfl,rfl,?_⟩;have:=q _ sm;rw[<-in_words] at this;cases e:HX (.str k) [V.str (Str.ofString "begin"),V.str (Str.ofString "end")] with
   |true=>rw[e,Bool.true_and] at this;rw[if_pos rfl];exact this
   |false=>rw[e,Bool.false_and] at this;rw[if_neg (by decide)];exact this
include T in theorem zN:FA P w K mg base "is_wish" 3 ["wish"] tS:=by
 exists 0,T.xv,Ey,tS;rename_i x;refine⟨_,(aj (aF (bH (aL (km K rfl) (by rfl) T.bf bg (cK (pv 0) (mS rfl T.vY Ay))) (bH (l0 (l5 K rfl HR.units) (aL (bF K rfl) (by rfl) T.hV cF (bI (pv 0))) au) (bH (aW (cg T) HR (eQ (aZ K (pv 0) au) (cK au (b_ rfl T.lU)))) (bH (aW (cg T) HR (eQ (aZ K (pv 0) au) (cK au au))) (jI (aW (DY T) HR (cK (aZ K (pv 0) au) (aZ K (pv 0) au)))))))))),?_⟩;obtain⟨w,i,q⟩:=h;obtain⟨h1,j⟩:=i;unfold tJ at q;exists h1;rw[if_pos (by decide)];cases a:b7 w.1 0 400 with
 |false=>rw[a] at q;rw[if_neg (by decide)];exact q H (a7.refl _)
 |true=>
  rw[if_pos rfl];cases d:b7 w.2.1 0 1 with
  |false=>rw[a,d] at q;rw[if_neg (by decide)];exact q H (a7.refl _)
  |true=>rw[a,d] at q;rw[if_pos rfl];exact⟨j,q⟩
include T in theorem yo:FA P w K mg base "check_wishes" 4 ["wishes"] (mz aw):=by
 exists 1,T.nT,mE,mz;rename_i p;refine⟨_,(aj (PS.fly rH Iw (rL (zI rfl rfl) rfl (CQ rfl T.mv (bI (pv 0))) (sV K (n:=2) rfl rfl (mR (a6 1 mE.1.nd) (mR (a6 2 mE.1.nd) sU))) (aj (bG (PT.nox (PW.pt (pw_or (bN N6 (pv 1) (b_ rfl T.l_)) (pw_or1 (lA (qS (aW (zN T) HR (bI (pv 2))))))))) (aj (nE T.sR (tx T) T.ua HR (by decide) Iv rfl rfl rfl (bI (pv 1)))) bc))))),?_⟩;obtain⟨ws,hW,q1,q2⟩:=h;obtain⟨xs,h1,Q,h3⟩:=hW;have xl:=CO Q;exists 9;refine Gp h1 (fun i σ H'=>a7 H H'/\i<=60/\(∀j<i,∀w,ws[j]?=some w->tJ w=true)/\∃I E,σ= [some (V.ref p),I,E]) ⟨a7.refl _,Nat.zero_le _,(fun j X=>absurd X (by lia)),none,none,rfl⟩ (fun i σ H' _ h=>h.1 _ _ h1) (fun i y pt σ H' Y h F=>?_) (fun σ H' h=>?_)
 ·
  obtain⟨sm,a,ok,I,E,rfl⟩:=h;rw[List.getElem?_map] at Y;obtain⟨y,ey,rfl⟩:=Option.map_eq_some_iff.mp Y;obtain⟨w,O,hD⟩:=EK Q ey;have B:=(List.getElem?_eq_some_iff.mp O).1;exists aa;have s:=sm.trans (af (o:= .tup [V.int (i:Int),V.ref y]) F);by_cases W:60<=(i:Int)
  ·
   rw[if_pos W];intro e he d hd;obtain⟨J,G⟩:=dropx (C:=aw) (f:="at") (v:= .int i) s he hd;exact⟨_,rfl,q2 i a B (.inl (by lia)) ok _ d J G⟩
  rw[if_neg W];refine⟨w,⟨s _ _ hD.1,hD.2⟩,fun H2 Z=>?_⟩;have u:=s.trans Z;by_cases x:tJ w=false
  ·
   rw[if_pos x];intro e he d hd;obtain⟨J,G⟩:=dropx (C:=aw) (f:="at") (v:= .int i) u he hd;exact⟨_,rfl,q2 i a B (.inr ⟨w,O,x⟩) ok _ d J G⟩
  rw[if_neg x];rw[Bool.not_eq_false] at x;refine⟨u,by lia,fun j X w' m=>?_,_,_,rfl⟩;by_cases z:j=i
  ·
   subst z;rw[O] at m;cases m;exact x
  ·exact ok j (by lia) w' m
 ·
  obtain⟨sm,a,ok,I,E,rfl⟩:=h;rw[List.length_map,xl] at ok a;refine q1 a (fun w hw=>?_) _ sm;obtain⟨i,U⟩:=List.getElem?_of_mem hw;exact ok i (List.getElem?_eq_some_iff.mp U).1 w U
include T in theorem qQ:FA P w K mg base "last_turn_of" 1 ["wishes"] my:=by
 exists 0,T.nR,yd,my;rename_i p;refine⟨_,(aj (aF (M6 K rfl rfl rfl T.AB (bI (b8 (N:=(["wish"]:List Str)) (nv:=1) (ix:=[]) rfl (iX (by kernel_rfl)) (bC K rfl (pv 0)) (fun _ _ _ _ _=>(a6 0 (show((["wish"]:List Str)).Nodup by decide))) (fun _ _ _ _ _=>bR) (fun _ _ _ _ _=>(aZ K (pv 0) au)))) (Yl Ur au)))),?_⟩;obtain⟨ws,⟨xs,h1,n,B⟩,q⟩:=h;have j:=CO n;exists 9;refine vW (xs:=xs.map V.ref) (bO.of h1) (ba (by rw[List.length_map];lia)) (fun i d σ H'=>H'=H/\d=((ws.take i).map (fun w=>w.1)).map V.int/\∃v,σ= [v]) ⟨rfl,rfl,_,rfl⟩ (fun i d σ H' hh=>by rw[hh.2.1,List.length_map,List.length_map,List.length_take];exact Nat.min_le_left _ _) (fun i d σ H' hh=>by rw[hh.1];exact bO.of h1) (fun i x d σ H' hx hh=>?_) (fun d σ H' hh=>?_)
 ·
  obtain⟨rfl,rfl,v,rfl⟩:=hh;rw[List.getElem?_map] at hx;obtain⟨a,ha,rfl⟩:=Option.map_eq_some_iff.mp hx;obtain⟨w,hw,⟨u,_⟩⟩:=EK n ha;exists u;refine⟨?_,_,rfl⟩;rw[List.take_add_one,hw,List.map_append,List.map_append];rfl
 obtain⟨rfl,rfl,v,rfl⟩:=hh;rw[List.take_of_length_le (by rw[List.length_map];lia)];refine⟨ba (by rw[List.length_map,List.length_map];lia),fun l j=>⟨_,bO.of aa,fun e=>?_,fun _ M s hle=>?_⟩⟩
 ·
  have y:ws= []:=List.map_eq_nil_iff.mp e;exact q _ _ (af j) (.inl ⟨y,rfl⟩)
 ·
  obtain⟨w,hw,rfl⟩:=List.mem_map.mp s;exact q _ _ (af j) (.inr ⟨⟨w,hw,rfl⟩,fun z m=>hle _ (List.mem_map_of_mem m)⟩)
theorem cj.nw {r:Addr} {H a d:Hp} (n:H r=none) (s:a7 H a) (b:cj r a d):a7 H d:=fun c o e=>b c o (s _ _ e) (fun z=>by rw[z,n] at e;cases e)
theorem og.bx {C:Addr} {H H':Hp} {r x dx:Addr} {fs:List (Str×V)} {i:List Cp} (h:og H x i) (b:cj r H H') (hr:H r=some (.ins C dx fs)):og H' x i:=by
 obtain⟨cs,a,m,j⟩:=h;exact⟨cs,b _ _ a (fun z=>by rw[z,hr] at a;cases a),bq m fun c d u=>b _ _ u (fun z=>by unfold Cj at u;rw[z,hr] at u;cases u),j⟩
theorem wa.bx {C:Addr} {H H':Hp} {r x dx:Addr} {fs:List (Str×V)} {a:List (List Cp)} (h:wa H x a) (b:cj r H H') (hr:H r=some (.ins C dx fs)):wa H' x a:=by
 obtain⟨xs,h1,d,i⟩:=h;exact⟨xs,b _ _ h1 (fun z=>by rw[z,hr] at h1;cases h1),bq d fun y j q=>q.bx b hr,i⟩
theorem yR.bx {C:Addr} {H H':Hp} {r x dx:Addr} {fs:List (Str×V)} {ws:List Ww} (h:yR H x ws) (b:cj r H H') (hr:H r=some (.ins C dx fs)):yR H' x ws:=by
 obtain⟨xs,h1,a,d⟩:=h;exact⟨xs,b _ _ h1 (fun z=>by rw[z,hr] at h1;cases h1),bq a fun y i q=>⟨b _ _ q.1 (fun z=>by have q1:=q.1;rw[z,hr] at q1;cases q1),q.2⟩,d⟩
theorem pz.bx {C s r x y dx m pc:Addr} {fs:List (Str×V)} {H H':Hp} {d:List (List Cp)} {sn:Int} {ms:List Cm} (h:pz C H r dx m pc d sn ms) (b:cj x H H') (hr:H x=some (.ins s y fs)) (ne:r≠x):pz C H' r dx m pc d sn ms:=by
 obtain⟨cs,j,v⟩:=h.hc;obtain⟨xs,i,n,u⟩:=h.hd;refine⟨b _ _ h.hr ne,⟨xs,b _ _ i (fun z=>by rw[z,hr] at i;cases i),bq n fun a _ q=>⟨q.1,q.2.bx b hr⟩,u⟩,⟨cs,b _ _ j (fun z=>by rw[z,hr] at j;cases j),bq v fun a _ q=>b _ _ q (fun z=>by unfold CmT at q;rw[z,hr] at q;cases q)⟩,h.ne⟩
theorem Bv.bx {i x r:Addr} {H H':Hp} {j m:Addr} {fs:List (Str×V)} {a o t g f l:Int} (h:Bv i H x a o t g f l) (b:cj r H H') (hr:H r=some (.ins j m fs)) (ne:x≠r):Bv i H' x a o t g f l:=by
 obtain⟨dx,p,h1,d⟩:=h;exact⟨dx,p,b _ _ h1 ne,b _ _ d (fun z=>by rw[z,hr] at d;cases d)⟩
theorem tupset {H:Hp} {p x C dx:Addr} {o:HO} {fs fs':List (Str×V)} (a:H p=none) (hx:H x=some (.ins C dx fs)):cj x H (upd (upd H p o) x (.ins C dx fs'))/\upd (upd H p o) x (.ins C dx fs') x=some (.ins C dx fs')/\upd (upd H p o) x (.ins C dx fs') p=some o/\upd H p o x=some (.ins C dx fs):=by
 have n:x≠p:=ax hx a;exact⟨(cj.refl.new a).write,aa,by rw[ah n.symm];exact aa,by rw[ah n];exact hx⟩
include T in theorem wJ:MA P w K mg base aD "__init__" 7 ["self","terms","roads","wishes"] (lp aD aG aC aB ag aE ay aI ar aJ aK ao ak aq aH av aw):=by
  exists 1,T.mK,wu,lp;rename_i x v rd wi;refine⟨_,(ae (aY (pv 0) (j2 (cK (Jg T.qo (pG T) HR (by decide) rfl rH rfl (cK (aZ K (pv 2) au) (aN (pv 1) T.bE T.hJ))) (Jg T.qo (pG T) HR (by decide) rfl rH rfl (cK (aZ K (pv 2) au) (aN (pv 1) T.bE T.hJ))))) T.bD T.mW)
  (bb (ae (jf (Jj (yo T) HR (by decide) rfl rH rfl (bI (pv 3))))
  (bb (ae (PS.nox (aY (pv 0) (pv 1) T.bD T.mV))
  (ae (PS.nox (aY (pv 0) (j2 (cK (aW (wG T) HR (bI (aZ K (pv 2) au))) (aW (wG T) HR (bI (aZ K (pv 2) au))))) T.bD T.mX))
  (bb (ae (PS.nox (aY (pv 0) (cb (uJ K rfl) (by rfl) T.AD Ds (bI (pv 3))) T.bD T.l6))
  (ae (PS.nox (aY (pv 0) (aW (qQ T) HR (bI (pv 3))) T.bD T.jv))
  (bb (ae (PS.nox (aY (pv 0) (j2 (cK (rM T.bZ (pH T) HR (by decide) rfl (cK au (pv 1))) (rM T.bZ (pH T) HR (by decide) rfl (cK au (pv 1))))) T.bD T.hZ))
  (bb (ae (PS.nox (aY (pv 0) (j2 (cK (bS jJ) (bS jJ))) T.bD T.oA))
  (ae (PS.nox (aY (pv 0) (bS jJ) T.bD T.rQ))
  (aj (PS.nox (aY (pv 0) au T.bD T.jk))))))))))))))))),?_⟩
  obtain⟨dx,r,o,t,g,f,l,pa,pb,da,db,ws,hx,hT,hg,hrd,hda,hdb,hl,hwi,e1,e2,e3,q⟩:=h;have hT':=hT;obtain⟨dt,pt,ht1,ht2⟩:=hT;have n1:v≠x:=gC ht1 hx (by simp[js]);have hg':=hg;obtain⟨g1,⟨g2,g3⟩,g4,g5,g6⟩:=hg';have fg:b7 g 1 60=true:=by unfold b7;simp;lia
  generalize h_u1:aP _=u1;exists hx,hrd,ht1;intro r0 x0 nr0 nx0 _;have s0:=jM (C:=aG) (fs:=[]) nr0 nx0;refine⟨da,x0,hda.same s0,rfl,fun _ _ okA H1 pd pc b1 _ _ Q=>?_,fun c=>?_,fun _ _ i ds a1 a2 a3 H' d sm hd=>e1 i ⟨⟨ds,a1,a2⟩,a3⟩ H' d (s0.trans sm) hd⟩;rotate_left
  ·
    rcases c with c|c
    · rw[fg] at c;cases c
    · exact absurd c (by lia)
  have S1:a7 H H1:=cj.nw nr0 s0 b1;have y0:r0≠x:=(ax hx nr0).symm;clear b1 s0;exists S1 _ _ hrd,S1 _ _ ht1;intro r1 x1 nr1 nx1 _;have s1:=jM (C:=aG) (fs:=[]) nr1 nx1;refine⟨db,x1,hdb.same (S1.trans s1),rfl,fun _ _ okB H2 pd2 pc2 b2 _ _ R2=>?_,fun c=>?_,fun _ _ i ds a1 a2 a3 H' d sm hd=>e2 okA i ⟨⟨ds,a1,a2⟩,a3⟩ H' d ((S1.trans s1).trans sm) hd⟩;rotate_left
  ·
    rcases c with c|c
    · rw[fg] at c;cases c
    · exact absurd c (by lia)
  have U:a7 H1 H2:=cj.nw nr1 s1 b2;have S2:=S1.trans U;have y1:r1≠x:=(ax (S1 _ _ hx) nr1).symm;have Q:=Q.same U;clear b2 s1 S1 U e1 e2;have x2:=S2 _ _ hx;intro m np1;have Y:x≠m:=ax x2 np1;have h3e: ∃H3,H3=upd (upd H2 m (.tup [.ref r0,.ref r1])) x (.ins aD dx (bu (Str.ofString "roads") (V.ref m) [])):=⟨_,rfl⟩;obtain⟨H3,eH3⟩:=h3e;have x3:H3 x=some (.ins aD dx (bu (Str.ofString "roads") (V.ref m) [])):=by rw[eH3];exact aa
  have B2:cj x H2 H3:=by rw[eH3];exact(cj.refl.new np1).write
  have G:H3 m=some (.tup [.ref r0,.ref r1]):=by rw[eH3,ah Y.symm];exact aa
  refine⟨dx,[],by rw[ah Y];exact x2,by decide,?_⟩;rw[<-eH3];clear eH3;have Q:=Q.bx B2 x2 y0;have R2:=R2.bx B2 x2 y1;have B3:cj x H H3:=fun b o e n=>B2 _ _ (S2 _ _ e) n;have hT3:Bv aH H3 v r o t g f l:=hT'.bx B3 hx n1;have hwi3:=hwi.bx B3 hx;rw[<-h_u1,aP];generalize h_u2:aP _=u2;exists 9;refine⟨ws,hwi3,fun l60 okW H4 S34=>?_,fun i i60 il a1 a2 H' d sm hd=>e3 okA okB i ⟨i60,il,a1,a2⟩ H' d (B3.same sm) hd⟩;have x4:=S34 _ _ x3;have Q:=Q.same S34;have R2:=R2.same S34;have G:=S34 _ _ G;have B4:cj x H H4:=B3.same S34;clear hT3 hwi3 x3 S34 B2 B3 S2 x2 np1 e3;rw[<-h_u2,aP];generalize h_u3:aP _=u3;exists x4;have B45:cj x H4 (upd H4 x (HO.ins aD dx (jz (V.ref m) (V.ref v)))):=cj.upd;have x5:upd H4 x (HO.ins aD dx (jz (V.ref m) (V.ref v))) x=some (HO.ins aD dx (jz (V.ref m) (V.ref v))):=aa;generalize upd H4 x (HO.ins aD dx (jz (V.ref m) (V.ref v)))=H5 at*
  have B5:=B4.trans B45;have Q:=Q.bx B45 x4 y0;have R2:=R2.bx B45 x4 y1;have G:=B45 _ _ G Y.symm;have nrd:rd≠x:=gC hrd hx (by simp);have hrd5:=B5 _ _ hrd nrd;clear B4 B45 x4;exists hrd5;refine⟨da,hda.bx B5 hx,fun c1 H6 S56 rn1=>?_⟩;exists S56 _ _ hrd5;refine⟨db,(hdb.bx B5 hx).same S56,fun c2 H7 S67 rn2=>?_⟩;have D1:=rn1.row.same S67;have D2:=rn2.row;clear rn1 rn2;intro F np2;have S57:=S56.trans S67;have x7:=S57 _ _ x5;obtain⟨B78,x8,hp2,xx⟩:=tupset (o:= .tup [V.ref c1,V.ref c2]) (fs':=bu (Str.ofString "deeds") (V.ref F) (jz (V.ref m) (V.ref v))) np2 x7;refine⟨dx,_,xx,by simp[jz],?_⟩;generalize upd (upd H7 F (.tup [V.ref c1,V.ref c2])) x (.ins aD dx (bu (Str.ofString "deeds") (V.ref F) (jz (V.ref m) (V.ref v))))=H8 at*
  have B8:=(B5.same S57).trans B78;have Q:=(Q.same S57).bx B78 x7 y0;have R2:=(R2.same S57).bx B78 x7 y1;have G:=B78 _ _ (S57 _ _ G) Y.symm;have D1:=D1.bx B78 x7;have D2:=D2.bx B78 x7;have np2x:F≠x:=(ax x7 np2).symm;clear B5 B78 x7 x5 S57 S56 S67 xx np2 hrd5;have hwi8:=hwi.bx B8 hx;rw[<-h_u3,aP];generalize h_u4:aP _=u4;obtain⟨wx,hw1,hw2,hw3⟩:=hwi8;have hw4:=CO hw2;exists hw1;refine⟨_,.inl (bO.of hw1),fun I nl3=>?_⟩;have ef3: ∃f3,f3=bu (Str.ofString "deeds") (V.ref F) (jz (V.ref m) (V.ref v)):=⟨_,rfl⟩;obtain⟨f3,ef3⟩:=ef3;rw[<-ef3] at x8;obtain⟨O,x9,hl3,xx⟩:=tupset (o:= .lst (wx.map V.ref)) (fs':=bu (Str.ofString "wishes") (V.ref I) f3) nl3 x8;have ff3:f3=B7 (V.ref m) (V.ref v) (V.ref F):=by rw[ef3];rfl
  refine⟨dx,_,xx,by rw[ff3];simp[B7],?_⟩;generalize upd (upd H8 I (.lst (wx.map V.ref))) x (.ins aD dx (bu (Str.ofString "wishes") (V.ref I) f3))=H9 at*
  have B9:=B8.trans O;have Q:=Q.bx O x8 y0;have R2:=R2.bx O x8 y1;have G:=O _ _ G Y.symm;have hp2:=O _ _ hp2 np2x;have D1:=D1.bx O x8;have D2:=D2.bx O x8;have W9:yR H9 I ws:=(show yR _ _ _ from⟨wx,hl3,bq hw2 fun y ds q=>⟨O _ _ q.1 (fun z=>by have q1:=q.1;rw[z,x8] at q1;cases q1),q.2⟩,hw3⟩);clear O x8 xx nl3 B8;refine⟨ws,hwi.bx B9 hx,fun M H10 s hM=>?_⟩;have W:=s _ _ x9;have ef4: ∃f4,f4=bu (Str.ofString "wishes") (V.ref I) f3:=⟨_,rfl⟩;obtain⟨f4,ef4⟩:=ef4;rw[<-ef4] at W;have ff4:f4=B6 (V.ref m) (V.ref v) (V.ref F) (V.ref I):=by rw[ef4,ff3];rfl
  refine⟨dx,_,W,by rw[ff4];simp[B6],?_⟩;have ef5:bu (Str.ofString "last_wish") (V.int M) f4=i4 (V.ref m) (V.ref v) (V.ref F) (V.ref I) (V.int M):=by rw[ff4];rfl
  rw[ef5];have B:cj x H10 (upd H10 x (.ins aD dx (i4 (V.ref m) (V.ref v) (V.ref F) (V.ref I) (V.int M)))):=cj.upd;have x11:upd H10 x (.ins aD dx (i4 (V.ref m) (V.ref v) (V.ref F) (V.ref I) (V.int M))) x=some (.ins aD dx (i4 (V.ref m) (V.ref v) (V.ref F) (V.ref I) (V.int M))):=aa;generalize upd H10 x (.ins aD dx (i4 (V.ref m) (V.ref v) (V.ref F) (V.ref I) (V.int M)))=H11 at*
  have B11:=(B9.same s).trans B;have Q:=(Q.same s).bx B W y0;have R2:=(R2.same s).bx B W y1;have G:=B _ _ (s _ _ G) Y.symm;have hp2:=B _ _ (s _ _ hp2) np2x;have D1:=(D1.same s).bx B W;have D2:=(D2.same s).bx B W;have W9:=(W9.same s).bx B W;have hT:=hT'.bx B11 hx n1;clear B9 B W s x9 ef5 ef4 ef3 ff3 ff4 hw1 hw2 hw3 hw4;rw[<-h_u4,aP];generalize h_u5:aP _=u5;exists 9;intro h0 d0 nh0 nd0 _;have t0:=jM (C:=aC) (fs:=[]) nh0 nd0;refine⟨d0,r,o,t,g,f,l,rfl,hT.same t0,hg,fun A0 H12 b12 fr0 hH0=>?_⟩;have U:a7 H11 H12:=cj.nw nh0 t0 b12;have x12:=U _ _ x11;have k0: ∀b∈foot h0 A0,b≠x:=fun b hb z=>by
    rcases List.mem_cons.mp hb with e|e
    · exact ax x11 nh0 (z.symm.trans e)
    ·
      have:=fr0 b e;rw[z,t0 _ _ x11] at this;cases this
  clear b12 fr0 t0 nh0 nd0;intro h1 d1 nh1 nd1 _;have t1:=jM (C:=aC) (fs:=[]) nh1 nd1;refine⟨d1,r,o,t,g,f,l,rfl,hT.same (U.trans t1),hg,fun A1 H13 b13 fr1 hH1=>?_⟩;have S13:a7 H12 H13:=cj.nw nh1 t1 b13;have k1: ∀b∈foot h1 A1,b≠x:=fun b hb z=>by
    rcases List.mem_cons.mp hb with e|e
    · exact ax x12 nh1 (z.symm.trans e)
    ·
      have:=fr1 b e;rw[z,t1 _ _ x12] at this;cases this
  have X:=S13 _ _ x12;have hH0:=hH0.same S13;have E:=U.trans S13;clear b13 fr1 t1 nh1 nd1 U S13 x12;intro Z np3;obtain⟨j,J,hp3,xx⟩:=tupset (o:= .tup [V.ref h0,V.ref h1]) (fs':=bu (Str.ofString "hands") (V.ref Z) (i4 (V.ref m) (V.ref v) (V.ref F) (V.ref I) (V.int M))) np3 X;refine⟨dx,_,xx,by simp[i4],?_⟩;have im: ∀b u,H13 b=some u->Imm u->b ∉ [x]:=fun b u e iu z=>by
    rw[List.mem_singleton.mp z,X] at e;cases e;rcases iu with⟨a,c⟩|⟨a,b,c⟩|c
    · cases c
    · simp[i4] at c
    ·
      obtain⟨a,b,c⟩:=c;cases c
  generalize upd (upd H13 Z (.tup [V.ref h0,V.ref h1])) x (.ins aD dx (bu (Str.ofString "hands") (V.ref Z) (i4 (V.ref m) (V.ref v) (V.ref F) (V.ref I) (V.int M))))=H14 at*
  have B14:=(B11.same E).trans j;have Q:=(Q.same E).bx j X y0;have R2:=(R2.same E).bx j X y1;have G:=j _ _ (E _ _ G) Y.symm;have hp2:=j _ _ (E _ _ hp2) np2x;have D1:=(D1.same E).bx j X;have D2:=(D2.same E).bx j X;have W9:=(W9.same E).bx j X;have dj: ∀{b:Addr} {L:List Addr},(∀b∈L,b≠x)->b∈L->b ∉ [x]:=fun h hb z=>h _ hb (List.mem_singleton.mp z);have hH0:=hH0.kp (S:=[x]) (Kp.but j (List.mem_singleton.mpr rfl)) (fun b hb=>dj k0 hb) im;have hH1:=hH1.kp (S:=[x]) (Kp.but j (List.mem_singleton.mpr rfl)) (fun b hb=>dj k1 hb) im;have ef6:bu (Str.ofString "hands") (V.ref Z) (i4 (V.ref m) (V.ref v) (V.ref F) (V.ref I) (V.int M))=m8 (V.ref m) (V.ref v) (V.ref F) (V.ref I) (V.int M) (V.ref Z):=rfl;rw[ef6] at J;clear im j B11 E X xx np3 hT x11;rw[<-h_u5,aP];exists 9;intro o0 no0 o1 no1 p4 np4;have SA:=(af (o:= .lst []) no0).trans (af (o:= .lst []) no1);have ho0:upd (upd H14 o0 (.lst [])) o1 (.lst []) o0=some (.lst []):=af no1 _ _ aa;have ho1:upd (upd H14 o0 (.lst [])) o1 (.lst []) o1=some (.lst []):=aa;have no0x:o0≠x:=(ax J no0).symm;have no1x:o1≠x:=(ax (af (o:= .lst []) no0 _ _ J) no1).symm;clear no1;generalize upd (upd H14 o0 (.lst [])) o1 (.lst [])=H15 at*
  have x15:=SA _ _ J;have np4x:p4≠x:=(ax x15 np4).symm;obtain⟨B156,x16,hp4,xx⟩:=tupset (o:= .tup [V.ref o0,V.ref o1]) (fs':=bu (Str.ofString "outs") (V.ref p4) (m8 (V.ref m) (V.ref v) (V.ref F) (V.ref I) (V.int M) (V.ref Z))) np4 x15;refine⟨dx,_,xx,by simp[m8],?_⟩;clear xx;generalize upd (upd H15 p4 (.tup [V.ref o0,V.ref o1])) x (.ins aD dx (bu (Str.ofString "outs") (V.ref p4) (m8 (V.ref m) (V.ref v) (V.ref F) (V.ref I) (V.int M) (V.ref Z))))=H16 at*
  have ef7:bu (Str.ofString "outs") (V.ref p4) (m8 (V.ref m) (V.ref v) (V.ref F) (V.ref I) (V.int M) (V.ref Z))=w9 (V.ref m) (V.ref v) (V.ref F) (V.ref I) (V.int M) (V.ref Z) (V.ref p4):=rfl;rw[ef7] at x16;intro p5 np5;have ef8:bu (Str.ofString "told") (V.ref p5) (w9 (V.ref m) (V.ref v) (V.ref F) (V.ref I) (V.int M) (V.ref Z) (V.ref p4))=w6 (V.ref m) (V.ref v) (V.ref F) (V.ref I) (V.int M) (V.ref Z) (V.ref p4) (V.ref p5):=rfl;have ef9:bu (Str.ofString "turn") (V.int 0) (w6 (V.ref m) (V.ref v) (V.ref F) (V.ref I) (V.int M) (V.ref Z) (V.ref p4) (V.ref p5))=dA (V.ref m) (V.ref v) (V.ref F) (V.ref I) (V.int M) (V.ref Z) (V.ref p4) (V.ref p5) (V.int 0):=rfl;obtain⟨B167,x17,hp5,xx⟩:=tupset (o:= .lst []) (fs':=dA (V.ref m) (V.ref v) (V.ref F) (V.ref I) (V.int M) (V.ref Z) (V.ref p4) (V.ref p5) (V.int 0)) np5 x16;refine⟨dx,_,xx,by simp[w9],by rw[ef8];simp[w6],?_⟩;rw[ef8,ef9];clear xx ef7 ef8 ef9;generalize upd (upd H16 p5 (.lst [])) x (.ins aD dx (dA (V.ref m) (V.ref v) (V.ref F) (V.ref I) (V.int M) (V.ref Z) (V.ref p4) (V.ref p5) (V.int 0)))=H17 at*
  have Bt:cj x H14 H17:=((cj.refl.same SA).trans B156).trans B167;have im: ∀b u,H14 b=some u->Imm u->b ∉ [x]:=fun b u e iu z=>by
    rw[List.mem_singleton.mp z,J] at e;cases e;rcases iu with⟨a,c⟩|⟨a,b,c⟩|⟨a,b,c⟩
    · cases c
    · simp[m8] at c
    · cases c
  have hp3x:Z≠x:=gC hp3 J (by simp);exact q okA okB l60 okW H17 m F I Z p4 p5 r0 r1 h0 h1 o0 o1 M A0 A1 (B14.trans Bt) hM
    ⟨
     x17,Bt _ _ G Y.symm,⟨_,_,_,Q.bx Bt J y0⟩,⟨_,_,_,R2.bx Bt J y1⟩,Bt _ _ hp3 hp3x,
     hH0.kp (S:=[x]) (Kp.but Bt (List.mem_singleton.mpr rfl)) (fun b hb=>dj k0 hb) im,
     hH1.kp (S:=[x]) (Kp.but Bt (List.mem_singleton.mpr rfl)) (fun b hb=>dj k1 hb) im,
     B167 _ _ hp4 np4x,B167 _ _ (B156 _ _ ho0 no0x) no0x,B167 _ _ (B156 _ _ ho1 no1x) no1x,hp5,⟨c1,c2,Bt _ _ hp2 np2x,D1.bx Bt J,D2.bx Bt J⟩,W9.bx Bt J⟩
include T in theorem zO:MA P w K mg base aD "unread" 1 ["self","side"] (ng aD aG aC aB ag aE ay aI ar aJ aK ao ak aq):=by
 exists 0,T.o8,rF,ng;rename_i x side;refine⟨_,(ae (a8 2 rF.1.nd (aN (aZ K (aN (pv 0) T.bD T.hZ) (pv 1)) T.bZ T.jx))
 (aj (aF (bz tZ (aN (pv 2) T.jV T.mi) (aN (pv 2) T.jV T.mh))))),?_⟩
 obtain⟨a,M,i,q⟩:=h;obtain⟨dx,y,m,j,wl,d,os,n,C,E,h0,h1,s,v,z,db,ws,u,B,r,o,t,f,l,W⟩:=i;have ha:=W.ha.tk.hx;have hb:=W.hb.tk.hx;rcases a with rfl|rfl
 ·
  exists W.hx,W.hh,W.ha.hx,ha,AF;exact q
 ·
  exists W.hx,W.hh,W.hb.hx,hb,Ci;exact q
include T in theorem qT:MA P w K mg base aD "side_is_quiet" 3 ["self","side"] (i6 aD aG aC aB ag aE ay aI ar aJ aK ao ak aq):=by
 exists 0,T.jt,k_,i6;rename_i x side;refine⟨_,(ae (a8 2 k_.1.nd (aZ K (aN (pv 0) T.bD T.hZ) (pv 1)))
 (aj (aF (bH (l0 (l5 K rfl HR.units) (jT (pv 2) T.bZ (vx T) HR) aT) (bH (jT (pv 2) T.bZ (AW T) HR) (bH (l0 (l5 K rfl HR.units) (jg (pv 0) T.bD (zO T) HR (bI (pv 1))) au) (jI (l0 (l5 K rfl HR.units) (jT (aZ K (aN (pv 0) T.bD T.mW) (pv 1)) T.qo (vt T) HR) au)))))))),?_⟩
 obtain⟨m,M,d,q⟩:=h;have a:=d;obtain⟨dx,C,u,s,wl,n,os,v,G,H,h0,h1,y,B,E,db,ws,z,F,r,o,t,f,l,W⟩:=a;obtain⟨_,_,_,j⟩:=W.ra;obtain⟨_,_,_,i⟩:=W.rb;rcases m with rfl|rfl
 ·
  exists W.hx,W.hh,W.ha.hx,W.hr,j.hr;refine⟨_,_,W.ha,?_⟩;rw[if_pos (show(kR 0 r o t f l).nm=Str.ofString "shut" from rfl)];refine⟨_,_,W.ha,?_⟩;rw[if_pos (show(decide ((kR 0 r o t f l).sd.b=(kR 0 r o t f l).sd.t)&&decide ((kR 0 r o t f l).sd.t=((kR 0 r o t f l).sd.T.length:Int)) && !(kR 0 r o t f l).due)=true from rfl)];exact⟨M,d,_,_,_,_,_,_,j,q⟩
 ·
  exists W.hx,W.hh,W.hb.hx,W.hr,i.hr;refine⟨_,_,W.hb,?_⟩;rw[if_pos (show(kR 1 r t o f l).nm=Str.ofString "shut" from rfl)];refine⟨_,_,W.hb,?_⟩;rw[if_pos (show(decide ((kR 1 r t o f l).sd.b=(kR 1 r t o f l).sd.t)&&decide ((kR 1 r t o f l).sd.t=((kR 1 r t o f l).sd.T.length:Int)) && !(kR 1 r t o f l).due)=true from rfl)];exact⟨M,d,_,_,_,_,_,_,i,q⟩
include T in theorem tN:MA P w K mg base aD "quiet" 4 ["self"] (oO aD aG aC aB ag aE ay aI ar aJ aK ao ak aq):=by
 exists 0,T.qB,AM,oO;rename_i x;refine⟨_,(aj (aF (bH (l0 BS (aN (pv 0) T.bD T.jk) (aN (pv 0) T.bD T.jv)) (jI (aL (lT K rfl rfl) (by rfl) T.vZ uL (bI (b8 (N:=(["side","self"]:List Str)) (nv:=1) (ix:=[0]) rfl (iX (by kernel_rfl)) (bC K rfl (pF K rfl rfl T.y4)) (fun _ _ _ _ _=>(a6 0 (show((["side","self"]:List Str)).Nodup by decide))) (fun _ _ _ _ _=>bR) (fun _ _ _ _ _=>(jg (pv 1) T.bD (qT T) HR (bI (pv 0))))))))))),?_⟩;obtain⟨M,j,q⟩:=h;have d:=j;obtain⟨dx,G,z,v,wl,u,os,B,O,U,h0,h1,C,F,I,db,ws,E,J,r,o,t,f,l,W⟩:=d;exists W.hx;by_cases c:M<0
 ·
  rw[if_pos c];rw[decide_eq_true c] at q;intro a sa _;refine Fh (p:=fun _=>true) (f:=fun _=>V.bl true) (sa H) (ba (by simp)) (fun y _ Q h=>h) (fun y m _ Q h=>?_) ?_
  ·have i: ∃s:Int,y = .int s/\(s=0\/s=1):=by
    simp only[List.mem_cons,List.not_mem_nil,or_false] at m;rcases m with rfl|rfl
    ·exact⟨_,rfl,.inl rfl⟩
    ·exact⟨_,rfl,.inr rfl⟩
   obtain⟨s,rfl,i⟩:=i;exists W.hx;exact⟨i,M,j,h⟩
  ·exact⟨ba (by simp),fun l n=>⟨[true,true],bO.of aa,q _ (af n)⟩⟩
 ·
  rw[if_neg c];rw[decide_eq_false c] at q;exact q H (a7.refl _)
include T in theorem wI:MA P w K mg base aD "given_in" 2 ["self","side"] (lj aD aG aC aB ag aE ay aI ar aJ aK ao ak aq):=by
 exists 0,T.mJ,pB,lj;rename_i x side;refine⟨_,(ae (a8 2 pB.1.nd (aN (aZ K (aN (pv 0) T.bD T.hZ) (pv 1)) T.bZ T.bT))
 (aj (aF (b8 (N:=(["place","sender"]:List Str)) (nv:=1) (ix:=[2]) rfl (iX (by kernel_rfl)) (BR rfl T.y7 (bI (jT (pv 2) T.bw (rN T) HR))) (fun _ _ _ _ _=>(a6 0 (show((["place","sender"]:List Str)).Nodup by decide))) (fun _ _ _ _ _=>bR) (fun _ _ _ _ _=>(jg (pv 1) T.bw (yr T) HR (bI (pv 0)))))))),?_⟩
 obtain⟨j,M,s,q⟩:=h;obtain⟨dx,F,y,u,wl,m,os,z,I,J,h0,h1,B,E,G,db,ws,C,H,r,o,t,f,l,W⟩:=s;rcases j with rfl|rfl
 ·
  exists W.hx,W.hh,W.ha.hx,W.ha.sd.hx;refine⟨_,_,W.ha.sd,(show -4611686018427387904<=(0:Int)/\(0:Int)<4611686018427387904 by decide),?_⟩;refine LO (p:=fun _=>true) (f:=fun v=>v) (n:=0) (ba (by decide)) (fun i a=>absurd a (by lia)) (fun i a=>absurd a (by lia)) ?_;exact⟨ba (by decide),fun l d=>q _ _ (af d) aa⟩
 ·
  exists W.hx,W.hh,W.hb.hx,W.hb.sd.hx;refine⟨_,_,W.hb.sd,(show -4611686018427387904<=(0:Int)/\(0:Int)<4611686018427387904 by decide),?_⟩;refine LO (p:=fun _=>true) (f:=fun v=>v) (n:=0) (ba (by decide)) (fun i a=>absurd a (by lia)) (fun i a=>absurd a (by lia)) ?_;exact⟨ba (by decide),fun l d=>q _ _ (af d) aa⟩
include T in theorem vk:MA P w K mg base aD "given_out" 1 ["self","side"] (kv aD aG aC aB ag aE ay aI ar aJ aK ao ak aq):=by
 exists 0,T.lI,u0,kv;rename_i x side;refine⟨_,(aj (aF (cb (uJ K rfl) (by rfl) T.AD Ds (bI (aZ K (aN (pv 0) T.bD T.oA) (pv 1)))))),?_⟩;obtain⟨d,M,j,q⟩:=h;obtain⟨dx,z,n,m,wl,i,os,s,E,F,h0,h1,u,y,B,db,ws,v,C,r,o,t,f,l,W⟩:=j;rcases d with rfl|rfl
 ·
  exists W.hx,W.ho;exact⟨_,.inl (bO.of W.oa),fun l a=>q l _ (af a) aa⟩
 ·
  exists W.hx,W.ho;exact⟨_,.inl (bO.of W.ob),fun l a=>q l _ (af a) aa⟩
theorem Xg: ∀c:Nat,48<=c->c<=57->(Builtin.Str.occurrences (Str.ofString "0123456789") ⟨#[c]⟩ 0 (Str.ofString "0123456789").length 1).isEmpty=false:=by
 intro c h1 a;have: ∀d:Nat,d<10->(Builtin.Str.occurrences (Str.ofString "0123456789") ⟨#[48+d]⟩ 0 (Str.ofString "0123456789").length 1).isEmpty=false:=by decide+kernel
 have e:=this (c - 48) (by lia);rwa [show 48+(c - 48)=c by lia] at e
theorem NR (n:Nat):(List.replicate n true).all id=true:=by induction n<;>simp_all [List.replicate_succ]
include T in theorem hX:FA P w K mg base "number_of" 1 ["word"] pZ:=by
 exists 0,T.sD,Cv,pZ;rename_i z;refine⟨_,(ae (bG (PW.pt (pw_or (lA (Jb nI nI au (aL (bF K rfl) (by rfl) T.hV cF (bI (pv 0))) (b_ rfl T.n8))) (pw_or1 (lA (qS (aL (lT K rfl rfl) (by rfl) T.vZ uL (bI (b8 (N:=(["sign"]:List Str)) (nv:=1) (ix:=[]) rfl (iX (by kernel_rfl)) (bC K rfl (pv 0)) (fun _ _ _ _ _=>(a6 0 (show((["sign"]:List Str)).Nodup by decide))) (fun _ _ _ _ _=>bR) (fun _ _ _ _ _=>(sW (oU K rfl) (pv 0) (b_ rfl T.xH) (ju rfl))))))))))) (aj (aF bh)) bc)
 (ae (bG (PW.pt (pw_and (cZ K HR (aZ K (pv 0) au) aT) (pw_and1 (qc K HR (pv 0) aT)))) (aj (aF bh)) bc)
 (aj (aF (cb HU (by rfl) T.AE AA (bI (pv 0))))))),?_⟩
 obtain⟨n,rfl,⟨n0,n1⟩,q⟩:=h;have C:=uy n0 9 (by decide) (by lia);have hd:=Dl n0;obtain⟨c,r,hc,s⟩:=Xu n0;have h1:1<=(dec n).length:=by show 1<=(dec n).cps.size;rw[<-Array.length_toList,hc];simp
 exists 9;refine⟨by rw[sizeLine_eq];lia,?_⟩;rw[if_pos (by lia),if_neg (by lia)];refine LN (p:=fun _=>true) (f:=fun _=> .bl true) (by rw[sizeLine_eq];lia) (fun _ _ Q h=>h) (fun x hx _ Q u=>?_) ?_
 ·
  obtain⟨m,hm,rfl⟩:=List.mem_map.mp hx;obtain⟨j,B⟩:=hd m hm;exists 9;rw[Xg m j B];exact u
 have i:(jH (dec n)).length=(dec n).length:=by simp[jH,Str.length]
 rw[List.filter_eq_self.mpr (fun _ _=>rfl)];refine⟨by rw[List.length_map,i,sizeLine_eq];lia,fun l d=>⟨List.replicate (dec n).length true,?_,?_⟩⟩
 ·have y:(jH (dec n)).map (fun _=>V.bl true)=(List.replicate (dec n).length true).map V.bl:=by
   rw[List.map_const',List.map_replicate,i]
  rw[y];exact bO.of aa
 rw[NR,if_neg (by decide)];refine⟨c,by rw[sizeLine_eq];lia,by rw[hc];exact AF,?_⟩;show wD K false _ _ _ _;rw[DP];refine⟨_,rfl,?_⟩;have fin:(dec n).length<=640/\∃a,intText? (dec n)=some a/\Q (V.int a) (upd H l (HO.lst ((jH (dec n)).map fun _=>V.bl true))):=⟨by lia,n,y2 n0 (by lia),q _ (af d)⟩;by_cases k:dec n=Str.ofString "0"
 ·
  rw[if_neg (not_not_intro k)];exact tD (fun _=>fin) fun _=>fin
 ·rw[if_neg (fun z=>k (s (by
   have v:=of_decide_eq_true z;exact(show #[c] = #[48]->c=48 by simp) (congrArg Str.cps v))))]
  exact fin
include T in theorem AQ:FA P w K mg base "numbers_of" 2 ["words"] oH:=by
 exists 0,T.qv,tK,oH;rename_i p;refine⟨_,(ae (ve (i:=1) (N:=(["word"]:List Str)) (nv:=1) (ix:=[]) rfl tK.1.nd rfl rfl (iX (by kernel_rfl)) (bC K rfl (pv 0)) (fun _ _ _ _ _=>(a6 0 (show((["word"]:List Str)).Nodup by decide))) (fun _ _ _ _ _=>bR) (fun _ _ _ _ _=>(aW (hX T) HR (bI (pv 0)))))
 (aj (aF (jh (kL (oU K rfl) bh (pv 1) (ju rfl)) bh (pv 1))))),?_⟩
 obtain⟨ns,j,hn,m,q⟩:=h;exists j;have s:(List.map V.str (List.map dec ns)).length=ns.length:=by simp
 refine vW (bO.of j) (ba (by lia)) (fun i a σ H'=>a7 H H'/\a=(ns.take i).map V.int/\∃v,σ= [v]) ⟨a7.refl _,rfl,_,rfl⟩ (fun i a σ H' h=>by rw[h.2.1];simp;lia) (fun i a σ H' h=>bO.of (h.1 _ _ j)) (fun i x a σ H' hx h=>?_) fun a σ H' h=>?_
 ·
  obtain⟨sm,rfl,v,rfl⟩:=h;rw[List.getElem?_map,List.getElem?_map] at hx;obtain⟨n,d⟩: ∃n,ns[i]?=some n:=by
   cases e:ns[i]? with
   |none=>rw[e] at hx;cases hx
   |some n=>exact⟨n,rfl⟩
  rw[d] at hx;cases hx;exists 9;refine⟨n,rfl,hn n (List.mem_of_getElem? d),fun y u=>⟨sm.trans u,?_,_,rfl⟩⟩;rw[List.take_add_one,d];simp
 ·
  obtain⟨sm,rfl,_⟩:=h;rw[s,List.take_length];refine⟨ba (by simpa using m),fun l nl=>⟨_,.inl (bO.of aa),rfl,?_,?_⟩⟩
  ·simp[pR]
  have e:HX V.non (ns.map V.int)=false:=by
   unfold HX;simp;exact fun _ _=>rfl
  rw[e,if_neg (by decide)];exact q _ _ (sm.trans (af nl)) aa
theorem vU {n:Int} (h:0<=n) (h1:n<1000000000):n.natAbs.log2<1920:=by
 have:n.natAbs<2 ^ 30:=by lia
 by_cases z:n.natAbs=0
 ·rw[z];decide
 ·exact Nat.lt_trans ((Nat.log2_lt z).mpr this) (by decide)
theorem Cn {B:Nat}: ∀{ws:List Str},(∀w∈ws,w.length<=B)->(ws.map (·.length)).sum<=ws.length*B
 | [],_=>by simp
 |w::r,h=>by
  have h1:=h w (by simp);have a:=Cn (ws:=r) fun x hx=>h x (by simp[hx]);simp only[List.map_cons,List.sum_cons,List.length_cons,Nat.succ_mul];lia
include T in theorem ow:FA P w K mg base "row_of_numbers" 1 ["word","numbers"] kr:=by
 exists 0,T.lF,uX,kr;rename_i z p;refine⟨_,(aj (aF (kM K rfl PySem.F.plainAttrs_str PySem.F.slot_str_join PySem.F.type_str_join (pI K rfl) aT (bI (a9 K (bS (bI (pv 0))) (b8 (N:=(["number"]:List Str)) (nv:=1) (ix:=[]) rfl (iX (by kernel_rfl)) (bC K rfl (pv 1)) (fun _ _ _ _ _=>(a6 0 (show((["number"]:List Str)).Nodup by decide))) (fun _ _ _ _ _=>bR) (fun _ _ _ _ _=>(cb fU (by rfl) T.oG mQ (bI (pv 0)))))))))),?_⟩;obtain⟨ns,y,hn,E,H,q⟩:=h;exists y;intro C n;have s:=af (o:= .lst [V.str z]) n;have m:=s _ _ y;refine kY (p:=fun _=>true) (f:=fun v=>match v with | .int i=> .str (dec i)|_=> .non) (bO.of m) (ba (by rw[List.length_map];lia)) (fun x _ Q h=>h) (fun x hx _ Q h=>?_) ?_
 ·
  obtain⟨i,a,rfl⟩:=List.mem_map.mp hx;obtain⟨d,u⟩:=hn i a;exists 9;exact⟨i,rfl,vU d u,h⟩
 rw[List.filter_eq_self.mpr (fun _ _=>rfl),List.map_map];refine⟨by rw[List.length_map,sizeLine_eq];lia,fun l nl=>?_⟩;have nn:C≠l:=ax aa nl;rw[kb];refine .inl ⟨_,_,_,_,rfl,rfl,by rw[ah nn];exact aa,aa,by rw[List.length_map,sizeLine_eq];simp;lia,fun G j=>?_⟩;show rJoin K _ _ _ _;rw[wC];refine⟨z::ns.map dec,?_,?_,q _ ((s.trans (af nl)).trans (af j))⟩
 ·
  rw[List.map_cons,List.map_map];exact bO.of aa
 ·have B:(((ns.map dec)).map (·.length)).sum<=(ns.map dec).length*9:=Cn fun w hw=>by
   obtain⟨i,a,rfl⟩:=List.mem_map.mp hw;obtain⟨d,u⟩:=hn i a;exact uy d 9 (by decide) (by lia)
  simp only[List.map_cons,List.sum_cons,List.length_cons,List.length_map] at B⊢;rw[show(Str.ofString " ").length=1 by decide];lia
theorem T6.ok.lt {T:T6} (h:T.ok): ∀n∈nums T,0<=n/\n<1000000000:=by
 obtain⟨⟨h1,j,a,i,d⟩,_⟩:=h;intro n hn;simp only[nums,List.mem_cons,List.not_mem_nil,or_false] at hn;rcases hn with rfl|rfl|rfl|rfl|rfl|rfl<;>lia
include T in theorem yn:FA P w K mg base "row_of_terms" 2 ["terms"] (mx aH):=by
 exists 0,T.nQ,yc,mx;rename_i x;refine⟨_,(aj (aF (aW (ow T) HR (cK aT (bS (eQ (aN (pv 0) T.bE T.h8) (eQ (aZ K (aN (pv 0) T.bE T.cH) au) (eQ (aZ K (aN (pv 0) T.bE T.cH) au) (eQ (aN (pv 0) T.bE T.hJ) (cK (aN (pv 0) T.bE T.jO) (aN (pv 0) T.bE T.dF))))))))))),?_⟩;obtain⟨a,d,hk,q⟩:=h;obtain⟨dx,p,h1,i⟩:=d;exists h1,i;intro l nl;exact⟨nums a,rfl,hk.lt,by simp[nums],by decide,fun H' s=>q H' ((af nl).trans s)⟩
include T in theorem yk:FA P w K mg base "word_of_deed" 2 ["deed"] qJ:=by
 exists 0,T.nO,yb,qJ;rename_i x;exact h.1.elim
include T in theorem EV:FA P w K mg base "copy_of" 3 ["word"] zr:=by
 exists 0,T.xE,EB,zr;rename_i x;exact h.1.elim
include T in theorem vj:FA P w K mg base "has_whole_copy" 1 ["deed"] oo:=by
 exists 0,T.lG,uY,oo;rename_i x;exact h.1.elim
include T in theorem CZ:FA P w K mg base "things_of" 1 ["wish"] uR:=by
 exists 0,T.sC,Cu,uR;rename_i x;exact h.1.elim
include T in theorem zL:FA P w K mg base "row_of_wish" 1 ["wish"] rj:=by
 exists 0,T.o6,zw,rj;rename_i x;exact h.1.elim
include T in theorem C6:MA P w K mg base aD "step" 9 ["self"] p9:=by
 exists 0,T.sG,Cz,p9;rename_i x;exact h.1.elim
include T in theorem AV:MA P w K mg base aO "go_to" 10 ["self","turns"] oP:=by
 exists 0,T.qC,AN,oP;rename_i x v;exact h.1.elim
include T in theorem zM:FA P w K mg base "row_of_road" 3 ["side","deeds"] m_:=by
 exists 0,T.o7,zy,m_;rename_i s p;refine⟨_,(aj (aF (kM K rfl PySem.F.plainAttrs_str PySem.F.slot_str_join PySem.F.type_str_join (pI K rfl) aT (bI (a9 K (bS (cK aT (cb fU (by rfl) T.oG mQ (bI (pv 0))))) (b8 (N:=(["deed"]:List Str)) (nv:=1) (ix:=[]) rfl (iX (by kernel_rfl)) (bC K rfl (pv 1)) (fun _ _ _ _ _=>(a6 0 (show((["deed"]:List Str)).Nodup by decide))) (fun _ _ _ _ _=>bR) (fun _ _ _ _ _=>(aW (yk T) HR (bI (pv 0)))))))))),?_⟩;obtain⟨d,m,q⟩:=h;exists m;refine⟨s,rfl,by rcases d with rfl|rfl<;>decide,fun n i=>?_⟩
 have j:=af (o:= .lst [V.str (Str.ofString "road"),V.str (Str.ofString (toString s))]) i;refine kY (p:=fun _=>true) (f:=fun v=>v) (bO.of (j _ _ m)) (ba (by simp)) (fun x hx=>absurd hx (by simp)) (fun x hx=>absurd hx (by simp)) ?_;refine⟨ba (by simp),fun l nl=>?_⟩;have nn:n≠l:=ax aa nl;rw[kb];refine .inl ⟨_,_,_,_,rfl,rfl,by rw[ah nn];exact aa,aa,by rw[sizeLine_eq];simp,fun u a=>?_⟩;show rJoin K _ _ _ _;rw[wC];refine⟨[Str.ofString "road",dec s],bO.of aa,by rcases d with rfl|rfl<;>decide,?_⟩
 rcases d with rfl|rfl
 ·
  rw[show Txt.join (Str.ofString " ") [Str.ofString "road",dec 0]=Str.ofString "road 0" by decide+kernel];exact q _ ((j.trans (af nl)).trans (af a))
 ·
  rw[show Txt.join (Str.ofString " ") [Str.ofString "road",dec 1]=Str.ofString "road 1" by decide+kernel];exact q _ ((j.trans (af nl)).trans (af a))
include T in theorem EU:FA P w K mg base "deed_of" 4 ["word"] tV:=by
 exists 0,T.xD,zB,tV;rename_i z;refine⟨_,(ae (bG (cZ K HR (pv 0) (b_ rfl T.xG)) (aj (aF (bS jJ))) bc)
 (ae (ve (i:=1) (N:=(["part"]:List Str)) (nv:=1) (ix:=[]) rfl zB.1.nd rfl rfl (iX (by kernel_rfl)) (bC K rfl (kM K rfl PySem.F.plainAttrs_str PySem.F.slot_str_split PySem.F.type_str_split mj (pv 0) (bI aT))) (fun _ _ _ _ _=>(a6 0 (show((["part"]:List Str)).Nodup by decide))) (fun _ _ _ _ _=>bR) (fun _ _ _ _ _=>(aW (EV T) HR (bI (pv 0)))))
 (aj (aF (jh (kL (FW K rfl HR.units) bh (pv 1) (ju rfl)) bh (pv 1)))))),?_⟩
 obtain⟨rfl,q⟩:=h;exists 9;exact fun p a=>q _ _ (af a) aa
theorem Fz:Txt.split (Str.ofString "road 0") (Str.ofString " ")= [Str.ofString "road",dec 0]:=by decide+kernel
theorem Fy:Txt.split (Str.ofString "road 1 -") (Str.ofString " ")= [Str.ofString "road",dec 1,Str.ofString "-"]:=by decide+kernel
include T in theorem ym:FA P w K mg base "side_of_road" 2 ["row"] mw:=by
 exists 0,T.nP,qP,mw;rename_i z;refine⟨_,(ae (a8 1 qP.1.nd (kM K rfl PySem.F.plainAttrs_str PySem.F.slot_str_split PySem.F.type_str_split mj (pv 0) (bI aT)))
 (ae (bG (PW.pt (pw_or (bN DT (aL (bF K rfl) (by rfl) T.hV cF (bI (pv 1))) au) (pw_or (qc K HR (aZ K (pv 1) au) aT) (pw_or1 (kL (Hh K rfl) (aZ K (pv 1) au) (pF K rfl rfl T.m6) (ju rfl)))))) (aj (aF bh)) bc)
 (aj (aF (aW (hX T) HR (bI (aZ K (pv 1) au))))))),?_⟩
 obtain⟨d,q⟩:=h;rcases d with rfl|rfl
 ·
  exists 9;rw[Fz];refine⟨by decide,by decide,fun l nl=>?_⟩;exists aa;rw[if_neg (by decide)];intro a sa _;refine⟨_,.inr (sa _),rfl,rfl,?_⟩;rw[if_neg (by decide)];exact⟨0,rfl,by decide,fun H' s=>q _ _ ((af nl).trans s)⟩
 ·
  exists 9;rw[Fy];refine⟨by decide,by decide,fun l nl=>?_⟩;exists aa;rw[if_neg (by decide)];intro a sa _;refine⟨_,.inr (sa _),rfl,rfl,?_⟩;rw[if_neg (by decide)];exact⟨1,rfl,by decide,fun H' s=>q _ _ ((af nl).trans s)⟩
include T in theorem D0:FA P w K mg base "deeds_of" 5 ["row","lag"] (rq av):=by
 exists 0,T.uG,xO,rq;rename_i z g;refine⟨_,(ae (ve (i:=2) (N:=(["word"]:List Str)) (nv:=1) (ix:=[]) rfl xO.1.nd rfl rfl (iX (by kernel_rfl)) (bC K rfl (nF (Ex K rfl) (kM K rfl PySem.F.plainAttrs_str PySem.F.slot_str_split PySem.F.type_str_split mj (pv 0) (bI aT)) (ou au) sT)) (fun _ _ _ _ _=>(a6 0 (show((["word"]:List Str)).Nodup by decide))) (fun _ _ _ _ _=>bR) (fun _ _ _ _ _=>(aW (EU T) HR (bI (pv 0)))))
 (ae (bG (kL (FW K rfl HR.units) bh (pv 2) (ju rfl)) (aj (aF bh)) bc)
 (ae (EJ (fun _ _ _=>(aj (jf (U1 (tM T) HR (by decide) rfl (zJ rfl) (cK (pv 2) (pv 1)))))) (Je rfl T.pX rfl (fun _=>(aj (aF bh))) EM))
 (aj (aF (pv 2)))))),?_⟩
 obtain⟨C,hg,q⟩:=h;rcases C with rfl|rfl
 ·
  exists 9;rw[Fz];refine⟨by decide,by decide,fun l nl=>?_⟩;exists aa;refine j_ (bO.of aa) fun l2 d=>?_;have n:=(af (o:= .lst [V.str (Str.ofString "road"),V.str (dec 0)]) nl).trans (af (o:= .lst []) d);refine kY (xs:=[]) (p:=fun _=>true) (f:=fun v=>v) (bO.of aa) (ba (by simp)) (fun x hx=>absurd hx (by simp)) (fun x hx=>absurd hx (by simp)) ?_;refine⟨ba (by simp),fun B a=>⟨0,[],[],by decide,bO.of aa,.nil,[],⟨[],aa,.nil,by decide⟩,fun _ _ _ H' s=>q _ _ ((n.trans (af a)).trans s),fun c=>?_,fun _ _ i I e=>absurd e (by simp)⟩⟩;rcases c with c|c
  ·rw[hg] at c;cases c
  ·exact absurd c (by simp)
 ·
  exists 9;rw[Fy];refine⟨by decide,by decide,fun l nl=>?_⟩;exists aa;refine j_ (bO.of aa) fun l2 d=>?_;have n:=(af (o:= .lst [V.str (Str.ofString "road"),V.str (dec 1),V.str (Str.ofString "-")]) nl).trans (af (o:= .lst [V.str (Str.ofString "-")]) d);have y:upd (upd H l (.lst [V.str (Str.ofString "road"),V.str (dec 1),V.str (Str.ofString "-")])) l2 (.lst [V.str (Str.ofString "-")]) l2=some (.lst [V.str (Str.ofString "-")]):=aa;show uV K _ (upd (upd H l (.lst [V.str (Str.ofString "road"),V.str (dec 1),V.str (Str.ofString "-")])) l2 (.lst [V.str (Str.ofString "-")])) _;generalize upd (upd H l (.lst [V.str (Str.ofString "road"),V.str (dec 1),V.str (Str.ofString "-")])) l2 (.lst [V.str (Str.ofString "-")])=G at*
  refine vW (bO.of y) (ba (by simp)) (fun i j σ H'=>a7 G H'/\(∃v,σ= [v])/\((i=0/\j= [])\/(i=1/\∃p,j= [V.ref p]/\H' p=some (.lst [])))) ⟨a7.refl _,⟨_,rfl⟩,.inl ⟨rfl,rfl⟩⟩ (fun i j σ H' h=>?_) (fun i j σ H' h=>bO.of (h.1 _ _ y)) (fun i x j σ H' hx h=>?_) fun j σ H' h=>?_
  ·rcases h.2.2 with⟨rfl,rfl⟩|⟨rfl,p,rfl,_⟩<;>simp
  ·
   obtain⟨sm,⟨v,rfl⟩,h⟩:=h;rcases h with⟨rfl,rfl⟩|⟨rfl,_⟩
   ·
    simp at hx;subst hx;exists 9;exact fun p J E u=>⟨sm.trans E,⟨_,rfl⟩,.inr ⟨p,rfl,u⟩⟩
   ·simp at hx
  ·
   obtain⟨sm,_,h⟩:=h;rcases h with⟨h,_⟩|⟨_,p,rfl,u⟩
   ·simp at h
   refine⟨ba (by simp),fun B a=>?_⟩;have m:=af (o:= .lst [V.ref p]) a _ _ u;refine⟨1,[p],[.l []],by decide,bO.of aa,.cons ?_ .nil,[[]],⟨[p],aa,.cons ⟨[],m,.nil,by decide⟩ .nil,by decide⟩,fun _ _ _ H' s=>q _ _ (((n.trans sm).trans (af a)).trans s),fun c=>?_,fun _ _ i I e f=>?_⟩
   ·exact .inr (.inl ⟨p,[],[],rfl,rfl,bO.of m,.nil⟩)
   ·
    rcases c with c|c
    ·rw[hg] at c;cases c
    ·exact absurd c (by simp)
   ·
    cases i with
    |zero=>simp at e;subst e;exact absurd f (by simp[oE])
    |succ i=>simp at e
include T in theorem DU:FA P w K mg base "value_of" 2 ["word","behind"] q_:=by
 exists 0,T.uz,DH,q_;rename_i w p;refine⟨_,(ae (bG (cZ K HR (aL (bF K rfl) (by rfl) T.hV cF (bI (pv 1))) au) (aj (aF bh)) bc)
 (aj (aF (jh (cZ K HR (pv 0) aT) (aW (hX T) HR (bI (aZ K (pv 1) au))) (aZ K (pv 1) au))))),?_⟩
 rcases h with⟨rfl,a,q⟩|⟨rfl,a,q⟩
 ·
  exists a;rw[if_pos (by rfl)];exact q
 ·
  exists a;rw[if_neg (by decide)];exact⟨60,rfl,by decide,q⟩
include T in theorem EO:FA P w K mg base "wish_of" 4 ["row"] tR:=by
 exists 0,T.xu,tW,tR;rename_i z;refine⟨_,(ae (a8 1 tW.1.nd (kM K rfl PySem.F.plainAttrs_str PySem.F.slot_str_split PySem.F.type_str_split mj (pv 0) (cK aT au)))
 (ae (bG (PW.pt (pw_or (bN DT (aL (bF K rfl) (by rfl) T.hV cF (bI (pv 1))) au) (pw_or1 (qc K HR (aZ K (pv 1) au) aT)))) (aj (aF bh)) bc)
 (ae (a8 2 tW.1.nd (j2 (eQ (aW (hX T) HR (bI (aZ K (pv 1) au))) (eQ (aW (hX T) HR (bI (aZ K (pv 1) au))) (cK (aZ K (pv 1) au) (aW (DU T) HR (cK (aZ K (pv 1) au) (nF (Ex K rfl) (pv 1) (ou au) sT))))))))
 (aj (aF (jh (qS (aW (zN T) HR (bI (pv 2)))) (pv 2) bh)))))),?_⟩
 obtain⟨x,q⟩:=h;rcases x with rfl|rfl
 ·
  exists 9;rw[show wg (Str.ofString "wish 0 0 begin") (Str.ofString " ") 4= [Str.ofString "wish",dec 0,dec 0,Str.ofString "begin"] by decide+kernel];refine⟨by decide,by decide,by decide+kernel,by decide+kernel,fun l nl=>?_⟩;exists aa;rw[if_neg (by decide)];refine⟨0,rfl,by decide,fun v s1=>?_⟩;have h1:=s1 _ _ aa;have m:=(af nl).trans s1;exists h1;refine⟨0,rfl,by decide,fun y i=>?_⟩;have j:=i _ _ h1;exists j;refine j_ (bO.of j) fun l2 d=>?_;refine .inl ⟨rfl,aa,fun u a=>?_⟩;exact⟨(0,0,Str.ofString "begin",.non),⟨aa,.inl rfl⟩,fun H' s=>tD (fun _=>q _ _ ((((m.trans i).trans (af d)).trans (af a)).trans s)) fun _=>q _ _ ((((m.trans i).trans (af d)).trans (af a)).trans s)⟩
 ·
  exists 9;rw[show wg (Str.ofString "wish 400 1 read 60") (Str.ofString " ") 4= [Str.ofString "wish",dec 400,dec 1,Str.ofString "read",dec 60] by decide+kernel];refine⟨by decide,by decide,by decide+kernel,by decide+kernel,fun l nl=>?_⟩;exists aa;rw[if_neg (by decide)];refine⟨400,rfl,by decide,fun v s1=>?_⟩;have h1:=s1 _ _ aa;have m:=(af nl).trans s1;exists h1;refine⟨1,rfl,by decide,fun y i=>?_⟩;have j:=i _ _ h1;exists j;refine j_ (bO.of j) fun l2 d=>?_;refine .inr ⟨rfl,aa,fun B n u a=>?_⟩;exact⟨(400,1,Str.ofString "read",.int 60),⟨aa,.inr (.inl ⟨60,rfl⟩)⟩,fun H' s=>tD (fun _=>q _ _ (((((m.trans i).trans (af d)).trans n).trans (af a)).trans s)) fun _=>q _ _ (((((m.trans i).trans (af d)).trans n).trans (af a)).trans s)⟩
theorem Eu {w:Str} {n:Int} (hw:(32:Nat) ∉ w.cps.toList) (h:0<=n):Txt.split (Txt.join (Str.ofString " ") [w,dec n]) (Str.ofString " ")= [w,dec n]:=
 zp (c:=32) (by simp) fun x hx=>by
  simp only[List.mem_cons,List.not_mem_nil,or_false] at hx;rcases hx with rfl|rfl
  ·exact hw
  ·
   intro hc;have:=(Dl h _ hc).1;lia
theorem De (g:Str): ∀ws:List Str,(Txt.join g ws).length<=(ws.map (·.length)).sum+ws.length*g.length:=fun ws=>by
 rw[qr];exact StrLaws.join_length_le g ws
theorem Mo {n:Int} (h0:0<=n) (h1:n<=4000):(Txt.join (Str.ofString " ") [Str.ofString "run",dec n]).length<=100000:=by
 have a:=De (Str.ofString " ") [Str.ofString "run",dec n];have b:=uy h0 9 (by decide) (by lia);simp only[List.map_cons,List.map_nil,List.sum_cons,List.sum_nil,List.length_cons,List.length_nil] at a;rw[show(Str.ofString " ").length=1 by decide,show(Str.ofString "run").length=3 by decide] at a;lia
include T in theorem xT:FA P w K mg base "turns_of" 2 ["row","word"] rf:=by
 exists 0,T.uA,rC,rf;rename_i z w;refine⟨_,(ae (a8 2 rC.1.nd (kM K rfl PySem.F.plainAttrs_str PySem.F.slot_str_split PySem.F.type_str_split mj (pv 0) (bI aT)))
 (ae (bG (PW.pt (pw_or (qc K HR (aL (bF K rfl) (by rfl) T.hV cF (bI (pv 2))) au) (pw_or1 (qc K HR (aZ K (pv 2) au) (pv 1))))) (aj (aF bh)) bc)
 (ae (a8 3 rC.1.nd (aW (hX T) HR (bI (aZ K (pv 2) au))))
 (aj (aF (jh (PW.pt (pw_or (bN jU (pv 3) bh) (pw_or1 (bN BS (pv 3) (b_ rfl T.qE))))) bh (pv 3))))))),?_⟩
 obtain⟨rfl,n,rfl,⟨n0,n1⟩,q⟩:=h;exists 9;rw[Eu (by decide) n0];refine⟨Mo n0 n1,by decide,fun l nl=>?_⟩;exists aa;rw[if_neg (by decide)];refine⟨n,rfl,by lia,fun H' s=>?_⟩;rw[if_neg (by lia)];exact q _ ((af nl).trans s)
include T in theorem DZ:FA P w K mg base "fairness" 2 ["deeds"] rp:=by
 exists 0,T.uF,rE,rp;rename_i p;refine⟨_,(ae (bG (cZ K HR (aL (bF K rfl) (by rfl) T.hV cF (bI (pv 0))) au) (aj (aF au)) bc)
 (ae (ve (i:=1) (N:=(["at","deed"]:List Str)) (nv:=2) (ix:=[]) rfl rE.1.nd rfl rfl (iX (by kernel_rfl)) (CQ rfl T.mv (bI (pv 0))) (fun _ _ _ _ _=>(sV K (n:=2) rfl rfl (mR (a6 0 (show((["at","deed"]:List Str)).Nodup by decide)) (mR (a6 1 (show((["at","deed"]:List Str)).Nodup by decide)) sU)))) (fun _ _ _ _ _=>(MQ (qS (aW (vj T) HR (bI (pv 1)))))) (fun _ _ _ _ _=>(pv 0)))
 (ae (bG (cZ K HR (aL (bF K rfl) (by rfl) T.hV cF (bI (pv 1))) au) (aj (aF bh)) bc)
 (ae (a8 2 rE.1.nd (a9 K (nF (Ex K rfl) (pv 1) (ou au) sT) (bS (bI (a9 K (aZ K (pv 1) au) (aL (bF K rfl) (by rfl) T.hV cF (bI (pv 0))))))))
 (aj (aF (aL (xF K rfl rfl) (by rfl) T.AB Az (bI (b8 (N:=(["at","after"]:List Str)) (nv:=2) (ix:=[]) rfl (iX (by kernel_rfl)) (UO rfl T.LW (cK (pv 1) (pv 2))) (fun _ _ _ _ _=>(sV K (n:=2) rfl rfl (mR (a6 0 (show((["at","after"]:List Str)).Nodup by decide)) (mR (a6 1 (show((["at","after"]:List Str)).Nodup by decide)) sU)))) (fun _ _ _ _ _=>bR) (fun _ _ _ _ _=>(bz tZ (pv 1) (pv 0)))))))))))),?_⟩
 obtain⟨a,q⟩:=h;exists a;rw[if_pos (by rfl)];exact q
include T in theorem vi:FA P w K mg base "things_at_most" 2 ["wishes"] kq:=by
 exists 0,T.lE,uW,kq;rename_i p;refine⟨_,(aj (aF (aL (HM K rfl rfl) (by rfl) T.GC LV (bI (b8 (N:=(["wish"]:List Str)) (nv:=1) (ix:=[]) rfl (iX (by kernel_rfl)) (bC K rfl (pv 0)) (fun _ _ _ _ _=>(a6 0 (show((["wish"]:List Str)).Nodup by decide))) (fun _ _ _ _ _=>bR) (fun _ _ _ _ _=>(aW (CZ T) HR (bI (pv 0))))))))),?_⟩;obtain⟨a,q⟩:=h;exists a;refine kY (p:=fun _=>true) (f:=fun v=>v) (bO.of a) (ba (by simp)) (fun x hx=>absurd hx (by simp)) (fun x hx=>absurd hx (by simp)) ?_;exact⟨ba (by simp),fun l nl=>⟨[],bO.of aa,q _ (af nl)⟩⟩
include T in theorem DW:FA P w K mg base "signs_of" 1 ["things"] rh:=by
 exists 0,T.uC,DI,rh;rename_i p;refine⟨_,(aj (aF (kM K rfl PySem.F.plainAttrs_str PySem.F.slot_str_join PySem.F.type_str_join (pI K rfl) aT (bI (b8 (N:=(["thing"]:List Str)) (nv:=1) (ix:=[]) rfl (iX (by kernel_rfl)) (bC K rfl (pv 0)) (fun _ _ _ _ _=>(a6 0 (show((["thing"]:List Str)).Nodup by decide))) (fun _ _ _ _ _=>bR) (fun _ _ _ _ _=>(vg K (pv 0) au))))))),?_⟩;obtain⟨a,q⟩:=h;exists a;refine kY (p:=fun _=>true) (f:=fun v=>v) (bO.of a) (ba (by simp)) (fun x hx=>absurd hx (by simp)) (fun x hx=>absurd hx (by simp)) ?_;exact⟨ba (by simp),fun l nl=>⟨[],bO.of aa,by decide,q _ (af nl)⟩⟩
theorem zj {T:T6} (h:T.ok):Txt.split (trow T) (Str.ofString " ")=Str.ofString "terms" ::(nums T).map dec:=
 zp (c:=32) (by simp) fun x hx=>by
  rcases List.mem_cons.mp hx with rfl|hx
  ·decide
  ·
   obtain⟨n,hn,rfl⟩:=List.mem_map.mp hx;intro hc;have:=(Dl (h.lt n hn).1 _ hc).1;lia
theorem uO {T:T6} (h:T.ok):(trow T).length<=1000:=by
 have a:=De (Str.ofString " ") (Str.ofString "terms" ::(nums T).map dec);have b:(((nums T).map dec).map (·.length)).sum<=((nums T).map dec).length*9:=Cn fun w hw=>by
  obtain⟨i,d,rfl⟩:=List.mem_map.mp hw;obtain⟨j,m⟩:=h.lt i d;exact uy j 9 (by decide) (by lia)
 have c:(nums T).length=6:=rfl;simp only[List.map_cons,List.sum_cons,List.length_cons,List.length_map,c] at a b;rw[show(Str.ofString " ").length=1 by decide,show(Str.ofString "terms").length=5 by decide] at a;unfold trow;lia
include T in theorem DV:FA P w K mg base "terms_of" 5 ["row"] (rg aH az aA):=by
 exists 0,T.uB,rD,rg;rename_i z;refine⟨_,(ae (a8 1 rD.1.nd (kM K rfl PySem.F.plainAttrs_str PySem.F.slot_str_split PySem.F.type_str_split mj (pv 0) (bI aT)))
 (ae (a8 2 rD.1.nd (aW (AQ T) HR (bI (nF (Ex K rfl) (pv 1) (ou au) sT))))
 (ae (bG (PW.pt (pw_or (qc K HR (aZ K (pv 1) au) aT) (pw_or (bN jU (pv 2) bh) (pw_or1 (qc K HR (aL (bF K rfl) (by rfl) T.hV cF (bI (pv 2))) au))))) (aj (aF bh)) bc)
 (aj (EJ (fun _ _ _=>(aj (aF (UZ T.bE (vm T) HR (by decide) rfl (zJ rfl) (eQ (aZ K (pv 2) au) (eQ (j2 (cK (aZ K (pv 2) au) (aZ K (pv 2) au))) (eQ (aZ K (pv 2) au) (cK (aZ K (pv 2) au) (aZ K (pv 2) au))))))))) (UQ rfl (FZ T.om rfl (FZ T.pW rfl Vc)) (by simp) (fun _=>(aj (aF bh))) EM)))))),?_⟩
 obtain⟨a,rfl,hk,q⟩:=h;exists 9;rw[zj hk];refine⟨Nat.le_trans (uO hk) (by decide),by decide,fun l nl=>?_⟩;exists aa;refine j_ (bO.of aa) fun l2 d=>?_;have nn:l≠l2:=ax aa d;have G:upd (upd H l (HO.lst (V.str (Str.ofString "terms")::List.map V.str (List.map dec (nums a))))) l2 (.lst (List.map V.str (List.map dec (nums a)))) l=some (HO.lst (V.str (Str.ofString "terms")::List.map V.str (List.map dec (nums a)))):=by rw[ah nn];exact aa
 have I:=(af (o:=HO.lst (V.str (Str.ofString "terms")::List.map V.str (List.map dec (nums a)))) nl).trans (af (o:= .lst (List.map V.str (List.map dec (nums a)))) d);refine⟨nums a,aa,hk.lt,by simp[nums],fun E u m n=>?_⟩;replace m:a7 (upd (upd H l (HO.lst (V.str (Str.ofString "terms")::List.map V.str (List.map dec (nums a))))) l2 (.lst (List.map V.str (List.map dec (nums a))))) u:=m;have v:=m _ _ G;have U:=I.trans m;replace n:u E=some (.lst [.int a.r,.int a.o,.int a.t,.int a.g,.int a.f,.int a.l]):=n;exists v,n;rw[if_neg (by decide)];intro B j;have s:=af (o:= .tup [V.int a.o,V.int a.t]) j _ _ n;exists s;intro x dx nx i _;refine⟨a.o,a.t,dx,?_,rfl,fun c=>absurd hk.1 c,fun _ c=>absurd c hk.2,fun _ _ y O Q=>?_⟩
 ·exact jM nx i _ _ aa
 have J:=U.trans (af (o:= .tup [V.int a.o,V.int a.t]) j);have C:a7 (upd u B (.tup [V.int a.o,V.int a.t])) y:=cj.nw nx (jM nx i) O;exact q x y (J.trans C) ⟨dx,B,Q,C _ _ aa⟩
include T in theorem DX:FA P w K mg base "reckoned" 3 ["terms","roads","wishes"] (rk aH):=by
 exists 0,T.uD,j9,rk;rename_i H J wi;refine⟨_,(ae (ve (i:=3) (N:=(["deeds"]:List Str)) (nv:=1) (ix:=[]) rfl j9.1.nd rfl rfl (iX (by kernel_rfl)) (bC K rfl (pv 1)) (fun _ _ _ _ _=>(a6 0 (show((["deeds"]:List Str)).Nodup by decide))) (fun _ _ _ _ _=>bR) (fun _ _ _ _ _=>(aW (DZ T) HR (bI (pv 0)))))
 (ae (bG (kL (oU K rfl) bh (pv 3) (ju rfl)) (aj (aF bh)) bc)
 (ae (a8 4 j9.1.nd (aL (xF K rfl rfl) (by rfl) T.AB Az (bI (pv 3))))
 (ae (a8 5 j9.1.nd (aN (pv 0) T.bE T.hJ))
 (ae (a8 6 j9.1.nd (a9 K (a9 K (bz j3 au (aW (vi T) HR (bI (pv 2)))) (aL (HL K rfl rfl) (by rfl) T.GC LV (bI (aN (pv 0) T.bE T.cH)))) au))
 (ae (a8 7 j9.1.nd (a9 K (a9 K (bz j3 (pv 4) (a9 K (bz j3 (pv 4) (aN (pv 0) T.bE T.dF)) (pv 5))) (bz j3 au (pv 5))) au))
 (aj (aF (a9 K (a9 K (a9 K (a9 K (aW (qQ T) HR (bI (pv 2))) au) (bz j3 (pv 6) (pv 7))) (bz j3 au (pv 5))) au))))))))),?_⟩
 obtain⟨a,d0,d1,v,hk,m,h0,h1,j,q⟩:=h;obtain⟨dx,p,u,t2⟩:=v;exists u,t2,m;refine kY (p:=fun _=>true) (f:=fun _=> .int 1) (bO.of m) (ba (by simp)) (fun x _ Q h=>h) (fun x hx _ Q h=>?_) ?_
 ·
  simp only[List.mem_cons,List.not_mem_nil,or_false] at hx;rcases hx with rfl|rfl<;>exists 9
  ·exact⟨h0,h⟩
  ·exact⟨h1,h⟩
 refine⟨ba (by simp),fun l nl=>⟨[.int 1,.int 1],.inl (bO.of aa),rfl,rfl,?_⟩⟩;rw[if_neg (by decide)];refine⟨[1,1],bO.of aa,by decide,fun M s _=>?_⟩;obtain rfl:M=1:=by simpa using s
 have n:=af (o:= .lst (List.map (fun _=>V.int 1) (List.filter (fun _=>true) [V.ref d0,V.ref d1]))) nl;exists n _ _ u;refine⟨n _ _ j,fun I d=>?_⟩;have d:=n.trans d;exists d _ _ u,d _ _ t2;refine⟨[a.o,a.t],n_.of (d _ _ t2),[],⟨[],d _ _ j,.nil,by decide⟩,fun M F y s=>?_⟩;obtain rfl:M = -1:=by
  rcases s with⟨_,h⟩|⟨⟨w,h,_⟩,_⟩
  ·exact h
  ·simp at h
 obtain⟨O,⟨E,G⟩,z,C,B⟩:=hk.1;refine⟨.inl ?_,?_⟩
 ·simp only[List.sum_cons,List.sum_nil];lia
 have e:(-1:Int)+1+(0+ [a.o,a.t].sum+1)*(1*(1*a.l+a.g)+2*a.g+4)+2*a.g+4=bnd a:=by
  simp only[List.sum_cons,List.sum_nil,bnd];rw[show(0+(a.o+(a.t+0))+1:Int)=a.o+a.t+1 by lia,show(1*(1*a.l+a.g)+2*a.g+4:Int)=a.l+a.g+2*a.g+4 by lia];lia
 rw[e];exact q _ (d.trans y)
include T in theorem Ng:FA P w K mg base "kept" 4 ["walk"] (Cr aD aG aC aB ag aE ay aI ar aJ aK ao ak aq aH):=by
 exists 0,T.Fc,FD,Cr;rename_i x;refine⟨_,(ae (a8 1 FD.1.nd (bS (bI (aW (yn T) HR (bI (aN (pv 0) T.bD T.mV))))))
 (ae (jf (FU PySem.F.plainAttrs_list PySem.F.slot_list_extend PySem.F.type_list_extend BV (pv 1) (bI (b8 (N:=(["side","walk"]:List Str)) (nv:=1) (ix:=[0]) rfl (iX (by kernel_rfl)) (bC K rfl (pF K rfl rfl T.y4)) (fun _ _ _ _ _=>(a6 0 (show((["side","walk"]:List Str)).Nodup by decide))) (fun _ _ _ _ _=>bR) (fun _ _ _ _ _=>(aW (zM T) HR (cK (pv 0) (aZ K (aN (pv 1) T.bD T.mX) (pv 0)))))))))
 (ae (jf (FU PySem.F.plainAttrs_list PySem.F.slot_list_extend PySem.F.type_list_extend BV (pv 1) (bI (b8 (N:=(["wish"]:List Str)) (nv:=1) (ix:=[]) rfl (iX (by kernel_rfl)) (bC K rfl (aN (pv 0) T.bD T.l6)) (fun _ _ _ _ _=>(a6 0 (show((["wish"]:List Str)).Nodup by decide))) (fun _ _ _ _ _=>bR) (fun _ _ _ _ _=>(aW (zL T) HR (bI (pv 0))))))))
 (ae (jf (qd K rfl (pv 1) (aW (ow T) HR (cK aT (bS (bI (aN (pv 0) T.bD T.jk)))))))
 (aj (aF (kM K rfl PySem.F.plainAttrs_str PySem.F.slot_str_join PySem.F.type_str_join (pI K rfl) aT (bI (pv 1))))))))),?_⟩
 obtain⟨tm,d,hW,hT,hk,q⟩:=h;obtain⟨dx,rds,ded,wl,hs,os,td,r0,r1,h0,h1,o0,o1,A0,A1,W⟩:=hW;obtain⟨c0,c1,hd,⟨xs0,hc0,Z,_⟩,⟨xs1,Q,pc1,_⟩⟩:=W.hd;cases Z;cases pc1;obtain⟨xw,hw,pw,_⟩:=W.hw;cases pw;exists W.hx;refine⟨d,hT,hk,fun H1 S1 p np=>?_⟩;have S2:=S1.trans (af (o:= .lst [V.str (trow d)]) np);have pf: ∀{b u},H b=some u->b≠p:=fun e=>ax (S1 _ _ e) np;have Y:upd H1 p (.lst [V.str (trow d)]) p=some (.lst [V.str (trow d)]):=aa;generalize upd H1 p (.lst [V.str (trow d)])=H2 at*
 refine⟨qX (bO.of Y),fun a sa _=>?_⟩;refine NO (sa _) (ba (by simp)) (fun i n σ H'=>a7 H2 H'/\(∃v,σ= [v,some (V.ref x)])/\n=([Str.ofString "road 0",Str.ofString "road 1"].take i).map V.str) ⟨a7.refl _,⟨_,rfl⟩,rfl⟩ (fun i n σ H' h=>by rw[h.2.2];simp;lia) (fun i n σ H' h=>sa _) (fun i y n σ H' j h=>?_) fun n σ J h=>?_
 ·
  obtain⟨sm,⟨v,rfl⟩,rfl⟩:=h;have s:=S2.trans sm
  match i,j with
  |0,j=>
   simp at j;subst j;exists s _ _ W.hx,s _ _ hd,AF;exact⟨s _ _ hc0,fun H4 X=>⟨sm.trans X,⟨_,rfl⟩,rfl⟩⟩
  |1,j=>
   simp at j;subst j;exists s _ _ W.hx,s _ _ hd,Ci;exact⟨s _ _ Q,fun H4 X=>⟨sm.trans X,⟨_,rfl⟩,rfl⟩⟩
  |i+2,j=>simp at j
 obtain⟨sm,_,m⟩:=h;replace m:n= [V.str (Str.ofString "road 0"),V.str (Str.ofString "road 1")]:=m;subst m;refine⟨ba (by simp),fun l nl=>?_⟩;have O:=sm.trans (af (o:= .lst [V.str (Str.ofString "road 0"),V.str (Str.ofString "road 1")]) nl);have C:=O _ _ Y;refine⟨p,l,_,_,rfl,rfl,C,aa,by rw[sizeLine_eq];simp,?_⟩;dsimp only;rw[show([V.str (trow d)]++ [V.str (Str.ofString "road 0"),V.str (Str.ofString "road 1")]:List V)= [V.str (trow d),V.str (Str.ofString "road 0"),V.str (Str.ofString "road 1")] from rfl];show Ut K "list" (V.ref p) (upd (upd J l (.lst [V.str (Str.ofString "road 0"),V.str (Str.ofString "road 1")])) p (.lst [V.str (trow d),V.str (Str.ofString "road 0"),V.str (Str.ofString "road 1")]))/\_;have U: ∀{b u},H b=some u->upd (upd J l (.lst [V.str (Str.ofString "road 0"),V.str (Str.ofString "road 1")])) p (.lst [V.str (trow d),V.str (Str.ofString "road 0"),V.str (Str.ofString "road 1")]) b=some u:=fun e=>by rw[ah (pf e)];exact O _ _ (S2 _ _ e)
 have z:upd (upd J l (.lst [V.str (Str.ofString "road 0"),V.str (Str.ofString "road 1")])) p (.lst [V.str (trow d),V.str (Str.ofString "road 0"),V.str (Str.ofString "road 1")]) p=some (.lst [V.str (trow d),V.str (Str.ofString "road 0"),V.str (Str.ofString "road 1")]):=aa;generalize upd (upd J l (.lst [V.str (Str.ofString "road 0"),V.str (Str.ofString "road 1")])) p (.lst [V.str (trow d),V.str (Str.ofString "road 0"),V.str (Str.ofString "road 1")])=I at*
 clear O C sm Y;refine⟨qX (bO.of z),?_⟩;exists U W.hx;refine kY (xs:=[]) (p:=fun _=>true) (f:=fun v=>v) (bO.of (U hw)) (ba (by simp)) (fun x hx=>absurd hx (by simp)) (fun x hx=>absurd hx (by simp)) ?_;refine⟨ba (by simp),fun l2 E=>?_⟩;refine⟨p,l2,_,_,rfl,rfl,af E _ _ z,aa,by rw[sizeLine_eq];simp,?_⟩;dsimp only;rw[show(List.map (fun v=>v) (List.filter (fun _=>true) ([]:List V)))= [] from rfl,show([V.str (trow d),V.str (Str.ofString "road 0"),V.str (Str.ofString "road 1")]++ []:List V)= [V.str (trow d),V.str (Str.ofString "road 0"),V.str (Str.ofString "road 1")] from rfl];show Ut K "list" (V.ref p) (upd (upd I l2 (.lst [])) p (.lst [V.str (trow d),V.str (Str.ofString "road 0"),V.str (Str.ofString "road 1")]))/\_;have K6: ∀{b u},H b=some u->upd (upd I l2 (.lst [])) p (.lst [V.str (trow d),V.str (Str.ofString "road 0"),V.str (Str.ofString "road 1")]) b=some u:=fun e=>by rw[ah (pf e)];exact af E _ _ (U e)
 have B:upd (upd I l2 (.lst [])) p (.lst [V.str (trow d),V.str (Str.ofString "road 0"),V.str (Str.ofString "road 1")]) p=some (.lst [V.str (trow d),V.str (Str.ofString "road 0"),V.str (Str.ofString "road 1")]):=aa;generalize upd (upd I l2 (.lst [])) p (.lst [V.str (trow d),V.str (Str.ofString "road 0"),V.str (Str.ofString "road 1")])=H6 at*
 refine⟨qX (bO.of B),?_⟩;exists K6 W.hx;intro l3 G;refine⟨[0],rfl,by simp,by simp,by decide,fun H7 s7=>⟨_,s7 _ _ (af G _ _ B),by rw[sizeLine_eq];simp,?_⟩⟩;refine⟨[trow d,Str.ofString "road 0",Str.ofString "road 1",Str.ofString "turn 0"],?_,?_,?_⟩
 ·
  rw[show Txt.join (Str.ofString " ") (Str.ofString "turn" ::List.map dec [0])=Str.ofString "turn 0" by decide+kernel];exact bO.of aa
 ·
  have:=uO hk;simp only[List.map_cons,List.map_nil,List.sum_cons,List.sum_nil,List.length_cons,List.length_nil];rw[show(Str.ofString "road 0").length=6 by decide,show(Str.ofString "road 1").length=6 by decide,show(Str.ofString "turn 0").length=6 by decide,show(Str.ofString "\n").length=1 by decide];lia
 ·exact q _ fun b u e=>by rw[ah (pf e)];exact s7 _ _ (af G _ _ (K6 e))
include T in theorem D3:MA P w K mg base aD "run" 10 ["self","most"] (rA aD aG aC aB ag aE ay aI ar aJ aK ao ak aq):=by
 exists 0,T.uH,DK,rA;rename_i x n;refine⟨_,(ae (Jc PassesOwn.never (PW.pt (pw_and (bN DT (aN (pv 0) T.bD T.jk) (pv 1)) (pw_and1 (lA (qS (jT (pv 0) T.bD (tN T) HR)))))) (aj (jf (jT (pv 0) T.bD (C6 T) HR))))
 (aj (aF (aN (pv 0) T.bD T.jk)))),?_⟩
 obtain⟨⟨B,J,C⟩,q⟩:=h;have a:=C;obtain⟨dx,i,d,wl,v,os,s,F,G,h0,h1,u,z,y,E,W⟩:=a;exists W.hx;refine⟨fun m σ H'=>m=0/\H'=H/\σ= [some (V.ref x),some (V.int n)],⟨0,rfl,rfl,rfl⟩,?_⟩;rintro m σ H' ⟨rfl,rfl,rfl⟩;exists W.hx;refine tD (fun _=>⟨-1,⟨dx,B,i,d,wl,v,os,s,F,G,h0,h1,u,z,[],[],[],y,E,_,_,_,_,_,W⟩,fun I j=>?_⟩) fun _=>q _ (a7.refl _);rw[if_neg (by decide)];exact⟨_,_,j _ _ W.hx,_,pS,q _ j⟩
include T in theorem wL:MA P w K mg base aO "__init__" 1 ["self","terms"] (lr aO):=by
 exists 0,T.mM,wy,lr;rename_i x a;refine⟨_,(ae (aY (pv 0) (pv 1) T.bJ T.jw)
 (ae (aY (pv 0) (bS (cK (bS jJ) (bS jJ))) T.bJ T.h_)
 (ae (aY (pv 0) (bS jJ) T.bJ T.fW)
 (aj (aY (pv 0) bh T.bJ T.hU))))),?_⟩
 obtain⟨dx,hx,q⟩:=h;exists hx;intro d0 n0 d1 n1 dl m;obtain⟨i,d⟩: ∃i,i=upd H x (.ins aO dx (pT (V.ref a))):=⟨_,rfl⟩;rw[<-d] at n0 n1 m⊢;have G:i x=some (.ins aO dx (pT (V.ref a))):=by rw[d];exact aa
 have I:cj x H i:=by rw[d];exact cj.upd
 clear d;have E:=((af (o:= .lst []) n0).trans (af (o:= .lst []) n1)).trans (af (o:= .lst [V.ref d0,V.ref d1]) m);have n:upd (upd (upd i d0 (.lst [])) d1 (.lst [])) dl (.lst [V.ref d0,V.ref d1]) d0=some (.lst []):=af m _ _ (af n1 _ _ aa);have s:upd (upd (upd i d0 (.lst [])) d1 (.lst [])) dl (.lst [V.ref d0,V.ref d1]) d1=some (.lst []):=af m _ _ aa;have j:upd (upd (upd i d0 (.lst [])) d1 (.lst [])) dl (.lst [V.ref d0,V.ref d1]) dl=some (.lst [V.ref d0,V.ref d1]):=aa;clear n1 m;generalize upd (upd (upd i d0 (.lst [])) d1 (.lst [])) dl (.lst [V.ref d0,V.ref d1])=B at*
 have v:=E _ _ G;refine⟨dx,_,v,by simp[pT],fun wl nw=>?_⟩;rw[show bu (Str.ofString "deeds") (V.ref dl) (pT (V.ref a))=lC (V.ref a) (V.ref dl) from rfl] at nw⊢;have z:cj x B (upd B x (.ins aO dx (lC (V.ref a) (V.ref dl)))):=cj.upd;have u:upd B x (.ins aO dx (lC (V.ref a) (V.ref dl))) x=some (.ins aO dx (lC (V.ref a) (V.ref dl))):=aa;generalize upd B x (.ins aO dx (lC (V.ref a) (V.ref dl)))=F at*
 have n:=z _ _ n (gC n v (by simp));have s:=z _ _ s (gC s v (by simp));have j:=z _ _ j (gC j v (by simp));have J:=af (o:= .lst []) nw _ _ u;refine⟨dx,_,J,by simp[lC],?_,?_⟩
 ·rw[show bu (Str.ofString "wishes") (V.ref wl) (lC (V.ref a) (V.ref dl))=B_ (V.ref a) (V.ref dl) (V.ref wl) from rfl];simp[B_]
 have y:cj x F (upd (upd F wl (.lst [])) x (.ins aO dx (bB (V.ref a) (V.ref dl) (V.ref wl) .non))):=(cj.refl.new nw).write;have C:wl≠x:=(ax u nw).symm;exact q dl d0 d1 wl _ ((I.same E).trans (z.trans y)) aa (y _ _ j (gC j u (by simp))) (y _ _ n (gC n u (by simp))) (y _ _ s (gC s u (by simp))) (by rw[ah C];exact aa)
noncomputable def hk:HO->Nat
 | .ins _ _ ((k,_)::_)=>if k == Str.ofString "talk" then 1 else if k == Str.ofString "terms" then 2 else 0
 |_=>0
theorem Jq {H:Hp} {a b:Addr} {o u:HO} (h:H a=some o) (h':H b=some u) (e:hk o≠hk u):a≠b:=fun z=>by
 subst z;rw[h] at h';cases h';exact e rfl
theorem xU {H:Hp} {a b:Addr} {o u:HO} (h:H a=some o) (h':H b=some u) (n:hk u≠0) (e:hk o=0):a≠b:=Jq h h' (by rw[e];exact n.symm)
section
variable {CTa CW CRo CH CT CS CWy CM CTe d dd C:Addr} {tb:List (Addr×Str)} {H H':Hp} {x tm:Addr} {T:T6} {b:Bool} {fs:List (Str×V)}
theorem k7.ap {A:HAd} {z:Hn} (h:k7 CH CT CS CWy CM tb H x A z) (B:cj d H H') (hd:H d=some (.ins C dd fs)) (ap:hk (.ins C dd fs)≠0):k7 CH CT CS CWy CM tb H' x A z:=by
 refine h.kp (S:=[d]) (Kp.but B (List.mem_singleton.mpr rfl)) (fun c hc hm=>?_) fun c u e i hm=>?_
 ·
  obtain⟨j,_⟩:=h.sd.ms;obtain⟨s,sp,y⟩:=h.sd.ws.ins;rw[List.mem_singleton] at hm;subst hm;have key: ∀{o:HO} {a:Addr},H a=some o->hk o=0->c≠a:=fun e n=>(xU e hd ap n).symm;simp only[foot,List.mem_cons,List.not_mem_nil,or_false] at hc;rcases hc with m|m|m|m|m|m|m|m|m|m|m
  ·exact key h.hx rfl m
  ·exact key h.tk.hx rfl m
  ·exact key h.tk.hD rfl m
  ·exact key h.sd.hx rfl m
  ·exact key y rfl m
  ·exact key j rfl m
  ·exact key h.sd.ht rfl m
  ·exact key h.sd.hk rfl m
  ·exact key h.sd.hf rfl m
  ·exact key h.sd.ha rfl m
  ·exact key h.he rfl m
 ·
  rw[List.mem_singleton] at hm;subst hm;rw[hd] at e;cases e;rcases i with⟨l,q⟩|⟨C,d,q⟩|⟨u,v,q⟩
  ·cases q
  ·
   cases q;exact ap rfl
  ·cases q
theorem LY.ap (h:LY CW CRo CH CT CS CWy CM tb H x tm T) (B:cj d H H') (hd:H d=some (.ins C dd fs)) (ap:hk (.ins C dd fs)≠0):LY CW CRo CH CT CS CWy CM tb H' x tm T:=by
 obtain⟨dx,j,i,wl,F,os,y,U,X,h0,h1,v,I,G,Q,W⟩:=h;obtain⟨_,_,_,s⟩:=W.ra;obtain⟨_,_,_,m⟩:=W.rb;obtain⟨u,z,J,E,O⟩:=W.hd;have k: ∀{a:Addr} {o:HO},H a=some o->hk o=0->H' a=some o:=fun e n=>B _ _ e (xU e hd ap n);exact⟨dx,j,i,wl,F,os,y,U,X,h0,h1,v,I,G,Q,k W.hx rfl,k W.hr rfl,⟨_,_,_,s.bx B hd (xU s.hr hd ap rfl)⟩,⟨_,_,_,m.bx B hd (xU m.hr hd ap rfl)⟩,k W.hh rfl,W.ha.ap B hd ap,W.hb.ap B hd ap,k W.ho rfl,k W.oa rfl,k W.ob rfl,k W.ht rfl,⟨u,z,k J rfl,E.bx B hd,O.bx B hd⟩,W.hw.bx B hd⟩
theorem LY.sm (h:LY CW CRo CH CT CS CWy CM tb H x tm T) (s:a7 H H'):LY CW CRo CH CT CS CWy CM tb H' x tm T:=by
 obtain⟨dx,i,a,wl,y,os,n,J,Q,h0,h1,m,B,z,I,W⟩:=h;obtain⟨_,_,_,O⟩:=W.ra;obtain⟨_,_,_,G⟩:=W.rb;obtain⟨j,u,E,v,F⟩:=W.hd;exact⟨dx,i,a,wl,y,os,n,J,Q,h0,h1,m,B,z,I,s _ _ W.hx,s _ _ W.hr,⟨_,_,_,O.same s⟩,⟨_,_,_,G.same s⟩,s _ _ W.hh,W.ha.same s,W.hb.same s,s _ _ W.ho,s _ _ W.oa,s _ _ W.ob,s _ _ W.ht,⟨j,u,s _ _ E,v.same s,F.same s⟩,W.hw.same s⟩
theorem bQ.sm (h:bQ CTa CW CRo CH CT CS CWy CM CTe tb H x T b) (s:a7 H H'):bQ CTa CW CRo CH CT CS CWy CM CTe tb H' x T b:=by
 obtain⟨dx,tm,dl,d0,d1,wl,wk,X⟩:=h;refine⟨dx,tm,dl,d0,d1,wl,wk,s _ _ X.hx,X.ht.same s,X.ok,s _ _ X.hd,s _ _ X.h0,s _ _ X.h1,s _ _ X.hw,?_⟩;have hw:=X.wk;cases b
 ·exact hw
 ·
  obtain⟨w,e,a⟩:=hw;exact⟨w,e,a.sm s⟩
theorem bQ.ap (h:bQ CTa CW CRo CH CT CS CWy CM CTe tb H x T b) (B:cj d H H') (hd:H d=some (.ins C dd fs)) (ap:hk (.ins C dd fs)=1):bQ CTa CW CRo CH CT CS CWy CM CTe tb H' x T b:=by
 obtain⟨dx,tm,dl,d0,d1,wl,wk,X⟩:=h;have k: ∀{a:Addr} {o:HO},H a=some o->hk o≠1->H' a=some o:=fun e n1=>B _ _ e (Jq e hd (fun z=>n1 (z.trans ap)));have k0: ∀{o:HO},hk o=0->hk o≠1:=fun e z=>by rw[e] at z;cases z
 obtain⟨dt,pt,j,t2⟩:=X.ht;refine⟨dx,tm,dl,d0,d1,wl,wk,k X.hx (by rw[show hk (.ins CTa dx (bB (.ref tm) (.ref dl) (.ref wl) wk))=2 from rfl];decide),⟨dt,pt,k j (k0 rfl),k t2 (k0 rfl)⟩,X.ok,k X.hd (k0 rfl),k X.h0 (k0 rfl),k X.h1 (k0 rfl),k X.hw (k0 rfl),?_⟩;have hw:=X.wk;cases b
 ·exact hw
 ·
  obtain⟨w,e,i⟩:=hw;exact⟨w,e,i.ap B hd (by rw[ap];decide)⟩
end
include T in theorem kN:MA P w K mg base aO "made_walk" 9 ["self"] (kB aO aD aG aC aB ag aE ay aI ar aJ aK ao ak aq aH av aw):=by
 exists 0,T.lL,u9,kB;rename_i x;refine⟨_,(ae (bG (bN jU (aN (pv 0) T.bJ T.hU) bh) (aj (aY (pv 0) (rM T.bD (wJ T) HR (by decide) rfl (eQ (aN (pv 0) T.bJ T.jw) (cK (j2 (cK (aZ K (aN (pv 0) T.bJ T.h_) au) (aZ K (aN (pv 0) T.bJ T.h_) au))) (aN (pv 0) T.bJ T.fW)))) T.bJ T.hU)) bc)
 (aj (aF (aN (pv 0) T.bJ T.hU)))),?_⟩
 obtain⟨j,b,Z,q⟩:=h;have I:=Z;obtain⟨dx,a,dl,d0,d1,wl,wk,X⟩:=Z;cases b
 ·
  have u:=X.wk;simp only[Bool.false_eq_true,if_false] at u;subst u;exists X.hx,X.hd;intro p np;have G:=af (o:= .tup [V.ref d0,V.ref d1]) np;have hp:upd H p (.tup [V.ref d0,V.ref d1]) p=some (.tup [V.ref d0,V.ref d1]):=aa;generalize upd H p (.tup [V.ref d0,V.ref d1])=H1 at*
  exists G _ _ X.hx;intro w dw nw J _;have E:=jM (C:=aD) (fs:=[]) nw J;have S:=G.trans E;refine⟨dw,j.r,j.o,j.t,j.g,j.f,j.l,d0,d1,[],[],[],rfl,X.ht.same S,X.ok.1,E _ _ hp,⟨[],S _ _ X.h0,.nil,by decide⟩,⟨[],S _ _ X.h1,.nil,by decide⟩,by decide,⟨[],S _ _ X.hw,.nil,by decide⟩,?_,?_,?_,?_⟩
  ·intro i h;obtain⟨⟨ds,e,_⟩,_⟩:=h;simp at e
  ·intro _ i h;obtain⟨⟨ds,e,_⟩,_⟩:=h;simp at e
  ·intro _ _ i h;obtain⟨_,e,_⟩:=h;simp at e
  intro _ _ _ _ m U Q B hs os td r0 r1 h0 h1 o0 o1 M A0 A1 B3 hM W;obtain rfl:M = -1:=by
   rcases hM with⟨_,h⟩|⟨⟨w,h,_⟩,_⟩
   ·exact h
   ·simp at h
  have S3:a7 H1 m:=cj.nw nw E B3;have d:=G.trans S3;have z:=d _ _ X.hx;refine⟨dx,_,z,by simp[bB],_,(show(bu (Str.ofString "walk") (V.ref w) (bB (V.ref a) (V.ref dl) (V.ref wl) V.non)).lookup (Str.ofString "walk")=some (V.ref w) from by kernel_rfl),?_⟩;rw[show bu (Str.ofString "walk") (V.ref w) (bB (V.ref a) (V.ref dl) (V.ref wl) V.non)=bB (V.ref a) (V.ref dl) (V.ref wl) (V.ref w) from by kernel_rfl];have v:cj x m (upd m x (.ins aO dx (bB (V.ref a) (V.ref dl) (V.ref wl) (V.ref w)))):=cj.upd;have x4:upd m x (.ins aO dx (bB (V.ref a) (V.ref dl) (V.ref wl) (V.ref w))) x=some (.ins aO dx (bB (V.ref a) (V.ref dl) (V.ref wl) (V.ref w))):=aa;have O:LY aD aG aC aB ag aE ay (tbl aI ar aJ aK ao ak aq) m w a j:=⟨_,U,Q,B,hs,os,td,r0,r1,h0,h1,o0,o1,A0,A1,W⟩;generalize upd m x (.ins aO dx (bB (V.ref a) (V.ref dl) (V.ref wl) (V.ref w)))=Y at*
  have n:=O.ap v z (show hk (.ins aO dx (bB (V.ref a) (V.ref dl) (V.ref wl) V.non))≠0 by rw[show hk (.ins aO dx (bB (V.ref a) (V.ref dl) (V.ref wl) V.non))=2 from rfl];decide);have F:a≠x:=by
   obtain⟨dt,pt,t1,t2⟩:=X.ht;exact xU t1 X.hx (by rw[show hk (.ins aO dx (bB (V.ref a) (V.ref dl) (V.ref wl) V.non))=2 from rfl];decide) rfl
  have s:=(X.ht.same d).bx v z F;have y: ∀{b l},H b=some (.lst l)->Y b=some (.lst l):=fun e=>v _ _ (d _ _ e) (gC (d _ _ e) z (by simp));exact q w a Y ((cj.refl.same d).trans v) ⟨dx,a,dl,d0,d1,wl,.ref w,x4,s,X.ok,y X.hd,y X.h0,y X.h1,y X.hw,⟨w,rfl,n⟩⟩ n s
 ·
  obtain⟨w,rfl,O⟩:=(show∃w,wk = .ref w/\_ from X.wk);exists X.hx;exact q w a H cj.refl I O X.ht
include T in theorem zP:MA P w K mg base aO "run_to" 11 ["self","turns"] (nh aO aD aG aC aB ag aE ay aI ar aJ aK ao ak aq aH av aw):=by
 exists 0,T.o9,zC,nh;rename_i x n;refine⟨_,(aj (aF (jh (bN jU (pv 1) bh) bh (cb fU (by rfl) T.oG mQ (bI (jg (jT (pv 0) T.bJ (kN T) HR) T.bD (D3 T) HR (bI (pv 1)))))))),?_⟩;obtain⟨u,b,j,q⟩:=h;have d:=j;obtain⟨dx,s,dl,d0,d1,wl,wk,X⟩:=j;exists X.hx;refine⟨u,b,d,fun w s B y z m C=>?_⟩;have a:=m;obtain⟨dw,_,_,_,_,_,_,_,_,_,_,_,_,_,_,W⟩:=a;exact⟨dw,_,W.hx,z8,⟨s,u,m⟩,fun v i=>⟨0,rfl,by decide,q v (y.same i) (z.sm i)⟩⟩
include T in theorem t6:MA P w K mg base aO "tell_whole" 10 ["self","word"] (jW aO aD aG aC aB ag aE ay aI ar aJ aK ao ak aq aH av aw):=by
 exists 0,T.kU,jZ,jW;rename_i x w;refine⟨_,(ae (a8 2 jZ.1.nd (jT (pv 0) T.bJ (kN T) HR))
 (bb (ae (bG (cZ K HR (pv 1) aT) (aj (aF (jh (qS (jT (pv 2) T.bD (tN T) HR)) aT aT))) bc)
 (bb (ae (bG (cZ K HR (pv 1) aT) (aj (aF (aW (Ng T) HR (bI (pv 2))))) bc)
 (ae (a8 3 jZ.1.nd (aW (DX T) HR (eQ (aN (pv 0) T.bJ T.jw) (cK (aN (pv 0) T.bJ T.h_) (aN (pv 0) T.bJ T.fW)))))
 (aj (aF (jh (bN jU (pv 3) bh) aT (cb fU (by rfl) T.oG mQ (bI (pv 3)))))))))))),?_⟩
 obtain⟨a,b,C,hw,q⟩:=h;have j:=C;obtain⟨dx,H,dl,d0,d1,wl,wk,X⟩:=C;generalize h_u1:aP _=u1;exists X.hx;refine⟨a,b,j,fun w1 i G v n F t1=>?_⟩;clear X j;obtain⟨dx,H,dl,d0,d1,wl,wk,X⟩:=n;have u:=F;obtain⟨dw,B,y,s,U,os,J,r0,r1,h0,h1,O,Z,Y,z,W⟩:=u;have n:bQ aO aD aG aC aB ag aE ay aH (tbl aI ar aJ aK ao ak aq) G x a true:=⟨dx,H,dl,d0,d1,wl,wk,X⟩;have Q:XA aD aG aC aB ag aE ay (tbl aI ar aJ aK ao ak aq) G w1 (-1):=⟨dw,i,B,y,s,U,os,J,r0,r1,h0,h1,O,Z,[],[],[],Y,z,_,_,_,_,_,W⟩;rw[<-h_u1,aP];generalize h_u2:aP _=u2;exists W.hx,X.hx;unfold wc at q;by_cases E:w=Str.ofString "quiet"
 ·
  rw[if_pos E] at q⊢;refine⟨-1,Q,fun m d=>?_⟩;rw[if_pos (by decide)];exact q m (v.same d) (n.sm d)
 rw[if_neg E] at q⊢;rw[<-h_u2,aP];exists X.hx;by_cases I:w=Str.ofString "kept"
 ·
  rw[if_pos I] at q⊢;exact⟨i,a,F,t1,X.ok,fun m d=>q m (v.same d) (n.sm d)⟩
 rw[if_neg I] at q⊢;refine⟨a,d0,d1,X.ht,X.ok,X.hd,X.h0,X.h1,X.hw,fun m d=>?_⟩;obtain⟨g1,⟨g2,g3⟩,g4,g5,g6⟩:=X.ok.1;have hb:0<=bnd a/\bnd a<1000000000:=by
  unfold bnd;have a1:0<=(a.o+a.t+1)*(a.l+a.g+2*a.g+4):=Int.mul_nonneg (by lia) (by lia);have a2:(a.o+a.t+1)*(a.l+a.g+2*a.g+4)<=33*164:=Int.mul_le_mul (by lia) (by lia) (by lia) (by lia);lia
 exact⟨bnd a,rfl,vU hb.1 hb.2,q m (v.same d) (n.sm d)⟩
include T in theorem vn:MA P w K mg base aO "tell_side" 10 ["self","word","side"] (kA aO aD aG aC aB ag aE ay aI ar aJ aK ao ak aq aH av aw):=by
 exists 0,T.lK,i9,kA;rename_i x w s;refine⟨_,(ae (a8 3 i9.1.nd (jT (pv 0) T.bJ (kN T) HR))
 (bb (ae (a8 4 i9.1.nd (aZ K (aN (pv 3) T.bD T.hZ) (pv 2)))
 (ae (bG (cZ K HR (pv 1) aT) (aj (aF (jT (pv 4) T.bZ (vx T) HR))) bc)
 (ae (bG (cZ K HR (pv 1) aT) (ae (a8 5 i9.1.nd (bS (eQ (aN (aN (pv 4) T.bZ T.bT) T.bw T.jP) (eQ (aN (aN (pv 4) T.bZ T.bT) T.bw T.kP) (eQ (aN (aN (pv 4) T.bZ T.bT) T.bw T.l7) (cK (aN (aN (pv 4) T.bZ T.jx) T.jV T.mi) (aN (aN (pv 4) T.bZ T.jx) T.jV T.mh)))))))
 (aj (aF (kM K rfl PySem.F.plainAttrs_str PySem.F.slot_str_join PySem.F.type_str_join (pI K rfl) aT (bI (b8 (N:=(["number"]:List Str)) (nv:=1) (ix:=[]) rfl (iX (by kernel_rfl)) (bC K rfl (pv 5)) (fun _ _ _ _ _=>(a6 0 (show((["number"]:List Str)).Nodup by decide))) (fun _ _ _ _ _=>bR) (fun _ _ _ _ _=>(cb fU (by rfl) T.oG mQ (bI (pv 0)))))))))) bc)
 (aj (aF (aW (FnAt.al (DW T) T.lX) HR (bI (jh (cZ K HR (pv 1) aT) (jg (pv 3) T.bD (wI T) HR (bI (pv 2))) (jg (pv 3) T.bD (vk T) HR (bI (pv 2))))))))))))),?_⟩
 obtain⟨hs,hw,T',b,hA,q⟩:=h;have y:=hA;obtain⟨dx,tm,dl,d0,d1,wl,wk,X⟩:=hA;generalize h_u1:aP _=u1;exists X.hx;refine⟨T',b,y,fun w1 I U m n W1 t1=>?_⟩;clear X y;have E:=W1;obtain⟨dw,rds,Z,C,J,os,td,r0,r1,h0,h1,o0,o1,A0,A1',W⟩:=E;have B:XA aD aG aC aB ag aE ay (tbl aI ar aJ aK ao ak aq) U w1 (-1):=⟨dw,I,rds,Z,C,J,os,td,r0,r1,h0,h1,o0,o1,[],[],[],A0,A1',_,_,_,_,_,W⟩;rw[<-h_u1,aP];unfold DG at q;rcases hs with rfl|rfl
 ·
  have ha:=W.ha.tk.hx;exists W.hx,W.hh,W.ha.hx,ha,W.ha.sd.hx,AF;refine tD (fun c=>⟨_,_,W.ha,?_⟩) fun c=>tD (fun j p z=>?_) fun j=>tD (fun G=>⟨-1,B,fun p Y a u=>⟨u,fun O d=>?_⟩⟩) fun G=>⟨-1,B,fun p Y a u=>⟨u,fun O d=>?_⟩⟩
  ·
   rw[if_pos c] at q;exact q _ m n
  ·
   rw[if_neg c,if_pos j] at q;show uV K (V.ref p) (upd U p (.lst [V.int 0,V.int 0,V.int 1,V.int 0,V.int 0])) _;refine kY (p:=fun _=>true) (f:=fun v=>match v with | .int i=> .str (dec i)|_=> .non) (bO.of aa) (ba (by simp)) (fun x _ Q h=>h) (fun x hx _ Q h=>?_) ?_
   ·have: ∃i:Int,x = .int i/\i.natAbs.log2<1920:=by
     simp only[List.mem_cons,List.not_mem_nil,or_false] at hx;rcases hx with rfl|rfl|rfl|rfl|rfl<;>exact⟨_,rfl,by decide⟩
    obtain⟨i,rfl,H⟩:=this;exists 9;exact⟨i,rfl,H,h⟩
   refine⟨ba (by simp),fun l nl=>⟨[dec 0,dec 0,dec 1,dec 0,dec 0],bO.of aa,by decide,?_⟩⟩;rw[show Txt.join (Str.ofString " ") [dec 0,dec 0,dec 1,dec 0,dec 0]=Str.ofString "0 0 1 0 0" by decide+kernel];exact q _ (m.same ((af z).trans (af nl))) (n.sm ((af z).trans (af nl)))
  ·
   rw[if_neg c,if_neg j] at q;exact q _ (m.same (a.trans d)) (n.sm (a.trans d))
  ·
   rw[if_neg c,if_neg j] at q;exact q _ (m.same (a.trans d)) (n.sm (a.trans d))
 ·
  have ha:=W.hb.tk.hx;exists W.hx,W.hh,W.hb.hx,ha,W.hb.sd.hx,Ci;refine tD (fun c=>⟨_,_,W.hb,?_⟩) fun c=>tD (fun j p z=>?_) fun j=>tD (fun G=>⟨-1,B,fun p Y a u=>⟨u,fun O d=>?_⟩⟩) fun G=>⟨-1,B,fun p Y a u=>⟨u,fun O d=>?_⟩⟩
  ·
   rw[if_pos c] at q;exact q _ m n
  ·
   rw[if_neg c,if_pos j] at q;show uV K (V.ref p) (upd U p (.lst [V.int 0,V.int 0,V.int 1,V.int 0,V.int 0])) _;refine kY (p:=fun _=>true) (f:=fun v=>match v with | .int i=> .str (dec i)|_=> .non) (bO.of aa) (ba (by simp)) (fun x _ Q h=>h) (fun x hx _ Q h=>?_) ?_
   ·have: ∃i:Int,x = .int i/\i.natAbs.log2<1920:=by
     simp only[List.mem_cons,List.not_mem_nil,or_false] at hx;rcases hx with rfl|rfl|rfl|rfl|rfl<;>exact⟨_,rfl,by decide⟩
    obtain⟨i,rfl,H⟩:=this;exists 9;exact⟨i,rfl,H,h⟩
   refine⟨ba (by simp),fun l nl=>⟨[dec 0,dec 0,dec 1,dec 0,dec 0],bO.of aa,by decide,?_⟩⟩;rw[show Txt.join (Str.ofString " ") [dec 0,dec 0,dec 1,dec 0,dec 0]=Str.ofString "0 0 1 0 0" by decide+kernel];exact q _ (m.same ((af z).trans (af nl))) (n.sm ((af z).trans (af nl)))
  ·
   rw[if_neg c,if_neg j] at q;exact q _ (m.same (a.trans d)) (n.sm (a.trans d))
  ·
   rw[if_neg c,if_neg j] at q;exact q _ (m.same (a.trans d)) (n.sm (a.trans d))
include T in theorem vp:MA P w K mg base aO "hear_road" 6 ["self","row"] (kD aO aD aG aC aB ag aE ay aI ar aJ aK ao ak aq aH av):=by
 exists 0,T.lN,kK,kD;rename_i x z;refine⟨_,(ae (a8 2 kK.1.nd (aW (ym T) HR (bI (pv 1))))
 (ae (a8 3 kK.1.nd (aW (D0 T) HR (cK (pv 1) (aN (aN (pv 0) T.bJ T.jw) T.bE T.hJ))))
 (ae (bG (PW.pt (pw_or (bN DS (aN (pv 0) T.bJ T.hU) bh) (pw_or (bN jU (pv 2) bh) (pw_or1 (bN jU (pv 3) bh))))) (aj (aF bh)) bc)
 (ae (FO (pv 3) (MZ (aN (pv 0) T.bJ T.h_) (pv 2) X6))
 (aj (aF aT)))))),?_⟩
 obtain⟨j,⟨H,n⟩,q⟩:=h;obtain⟨dx,E,dl,d0,d1,wl,wk,X⟩:=n;obtain⟨w,rfl,G⟩:=(show∃w,wk = .ref w/\_ from X.wk);obtain⟨dt,pt,m,t2⟩:=X.ht;exists X.hx,m;refine⟨j,fun i C a=>?_⟩;exists a _ _ X.hx,a _ _ m;obtain⟨I,⟨y,B⟩,s,v,u⟩:=X.ok.1;refine⟨j,yZ (by lia),fun p F d=>?_⟩;exists d _ _ (a _ _ X.hx);exact q _ (a.trans d)
include T in theorem vo:MA P w K mg base aO "hear_wish" 5 ["self","row"] (kC aO aD aG aC aB ag aE ay aI ar aJ aK ao ak aq aH):=by
 exists 0,T.lM,ot,kC;rename_i x z;refine⟨_,(ae (a8 2 ot.1.nd (aW (EO T) HR (bI (pv 1))))
 (ae (bG (PW.pt (pw_or (bN DS (aN (pv 0) T.bJ T.hU) bh) (pw_or (bN jU (pv 2) bh) (pw_or1 (cZ K HR (aL (bF K rfl) (by rfl) T.hV cF (bI (aN (pv 0) T.bJ T.fW))) (b_ rfl T.l_)))))) (aj (aF bh)) bc)
 (ae (jf (qd K rfl (aN (pv 0) T.bJ T.fW) (pv 2)))
 (aj (aF aT))))),?_⟩
 obtain⟨i,⟨s,d⟩,q⟩:=h;obtain⟨dx,m,dl,d0,d1,wl,wk,X⟩:=d;obtain⟨w,rfl,n⟩:=(show∃w,wk = .ref w/\_ from X.wk);exists X.hx;refine⟨i,fun v j a=>?_⟩;exists a _ _ X.hx;exact q _ a
theorem BL.ne {w:Str} (h:BL w):(32:Nat) ∉ w.cps.toList/\w.length<=5/\w≠ "road" /\w≠ "wish" /\w≠ "turn" /\w≠ "run" /\w≠ "terms" :=by
 rcases h with rfl|rfl|rfl|rfl<;>decide
theorem Fu {w:Str} {n:Int} (h0:0<=n) (h1:n<=4000) (hw:w.length<=5):(Txt.join (Str.ofString " ") [w,dec n]).length<=1000:=by
 have a:=De (Str.ofString " ") [w,dec n];have b:=uy h0 9 (by decide) (by lia);simp only[List.map_cons,List.map_nil,List.sum_cons,List.sum_nil,List.length_cons,List.length_nil] at a;rw[show(Str.ofString " ").length=1 by decide] at a;lia
def ze (z:Str):Prop:=z = "quiet" \/z = "bound" \/z = "kept"
theorem ze.split {z:Str} (h:ze z):Txt.split z (Str.ofString " ")= [z]/\z.length<=5/\z≠ "road" /\z≠ "wish" /\z≠ "turn" /\z≠ "run" /\z≠ "terms" :=by
 rcases h with rfl|rfl|rfl
 ·exact⟨by decide+kernel,by decide⟩
 ·exact⟨by decide+kernel,by decide⟩
 ·exact⟨by decide+kernel,by decide⟩
theorem Ask.row {T:T6} {z a:Str} (h:Ask T z a):z.length<=1000/\∃w r,Txt.split z (Str.ofString " ")=w::r/\(w≠ "road" /\w≠ "wish" /\w≠ "turn" /\w≠ "terms")/\((w = "run" /\∃n,(0<=n/\n<=4000)/\z=Txt.join " " ["run",dec n]/\a = "0")\/(w≠ "run" /\((ze z/\a=wc T z)\/(¬ze z/\BL w/\∃s,(s=0\/s=1)/\r= [dec s]/\a=DG w)))):=by
 rcases h with⟨n,⟨n0,n1⟩,rfl,rfl⟩|⟨x,rfl⟩|⟨w,s,y,hw,rfl,rfl⟩
 ·exact⟨Fu n0 n1 (by decide),_,_,Eu (by decide) n0,by decide,.inl ⟨rfl,n,⟨n0,n1⟩,rfl,rfl⟩⟩
 ·
  obtain⟨e,v,i,j,d,m,u⟩:=ze.split x;exact⟨by lia,z,[],e,⟨i,j,d,u⟩,.inr ⟨m,.inl ⟨x,rfl⟩⟩⟩
 ·
  obtain⟨h1,v,i,j,d,m,u⟩:=hw.ne;have e:=Eu (n:=s) h1 (by lia);refine⟨Fu (by lia) (by lia) v,w,_,e,⟨i,j,d,u⟩,.inr ⟨m,.inr ⟨fun z=>?_,hw,s,y,rfl,rfl⟩⟩⟩;rw[z.split.1] at e;exact absurd (congrArg List.length e) (by simp)
theorem Ask.oth {T:T6} {z a:Str} (h:Ask T z a):XE z:=by
 obtain⟨h1,w,r,e,⟨_,_,_,n⟩,_⟩:=h.row;exact⟨h1,w,r,e,n⟩
theorem XF.oth {z:Str} (h:XF z):XE z:=by
 rcases h with(rfl|rfl)|(rfl|rfl)
 ·exact⟨by decide,_,_,Fz,by decide⟩
 ·exact⟨by decide,_,_,Fy,by decide⟩
 ·exact⟨by decide,Str.ofString "wish",[dec 0,dec 0,Str.ofString "begin"],by decide+kernel,by decide⟩
 ·exact⟨by decide,Str.ofString "wish",[dec 400,dec 1,Str.ofString "read",dec 60],by decide+kernel,by decide⟩
theorem in3 {z a b c:Str}:HX (.str z) [.str a,.str b,.str c]=true↔z=a\/z=b\/z=c:=by
 show((a == z)||((b == z)||((c == z)||false)))=true↔_;rw[Bool.or_eq_true,Bool.or_eq_true,Bool.or_eq_true,beq_iff_eq,beq_iff_eq,beq_iff_eq];constructor
 ·
  rintro(h|h|h|h)
  ·exact .inl h.symm
  ·exact .inr (.inl h.symm)
  ·exact .inr (.inr h.symm)
  ·cases h
 ·
  rintro(h|h|h)
  ·exact .inl h.symm
  ·exact .inr (.inl h.symm)
  ·exact .inr (.inr (.inl h.symm))
theorem in4 {z a b c d:Str}:HX (.str z) [.str a,.str b,.str c,.str d]=true↔z=a\/z=b\/z=c\/z=d:=by
 show((a == z)||((b == z)||((c == z)||((d == z)||false))))=true↔_;rw[Bool.or_eq_true,Bool.or_eq_true,Bool.or_eq_true,Bool.or_eq_true,beq_iff_eq,beq_iff_eq,beq_iff_eq,beq_iff_eq];constructor
 ·
  rintro(h|h|h|h|h)
  ·exact .inl h.symm
  ·exact .inr (.inl h.symm)
  ·exact .inr (.inr (.inl h.symm))
  ·exact .inr (.inr (.inr h.symm))
  ·cases h
 ·
  rintro(h|h|h|h)
  ·exact .inl h.symm
  ·exact .inr (.inl h.symm)
  ·exact .inr (.inr (.inl h.symm))
  ·exact .inr (.inr (.inr (.inl h.symm)))
include T in theorem wK:MA P w K mg base aO "hear_row" 12 ["self","row"] (lq aO aD aG aC aB ag aE ay aI ar aJ aK ao ak aq aH av aw):=by
 exists 0,T.mL,pC,lq;rename_i x z;refine⟨_,(ae (a8 2 pC.1.nd (kM K rfl PySem.F.plainAttrs_str PySem.F.slot_str_split PySem.F.type_str_split mj (pv 1) (bI aT)))
 (bb (ae (bG (cZ K HR (aZ K (pv 2) au) aT) (aj (aF (jg (pv 0) T.bJ (vp T) HR (bI (pv 1))))) bc)
 (bb (ae (bG (cZ K HR (aZ K (pv 2) au) aT) (aj (aF (jg (pv 0) T.bJ (vo T) HR (bI (pv 1))))) bc)
 (bb (ae (bG (cZ K HR (aZ K (pv 2) au) aT) (aj (aF (jg (pv 0) T.bJ (AV T) HR (bI (aW (xT T) HR (cK (pv 1) aT)))))) bc)
 (bb (ae (bG (cZ K HR (aZ K (pv 2) au) aT) (aj (aF (jg (pv 0) T.bJ (zP T) HR (bI (aW (xT T) HR (cK (pv 1) aT)))))) bc)
 (bb (ae (bG (kL (oU K rfl) (pv 1) (pF K rfl rfl T.ph) (ju rfl)) (aj (aF (jg (pv 0) T.bJ (t6 T) HR (bI (pv 1))))) bc)
 (bb (ae (bG (PW.pt (pw_and (cZ K HR (aL (bF K rfl) (by rfl) T.hV cF (bI (pv 2))) au) (pw_and (kL (oU K rfl) (aZ K (pv 2) au) (pF K rfl rfl T.pj) (ju rfl)) (pw_and1 (kL (oU K rfl) (aZ K (pv 2) au) (pF K rfl rfl T.m6) (ju rfl)))))) (aj (aF (jg (pv 0) T.bJ (vn T) HR (cK (aZ K (pv 2) au) (aW (hX T) HR (bI (aZ K (pv 2) au))))))) bc)
 (aj (aF bh))))))))))))))),?_⟩
 obtain⟨I,b,J,h⟩:=h;generalize h_u1:aP _=W;exists 9;rcases h with⟨a,U,q⟩|⟨rfl,hb,q⟩
 ·
  obtain⟨hlen,C,r,e,⟨n1,n2,n3,_⟩,hc⟩:=U.row;rw[e];refine⟨by lia,by decide,fun l nl=>?_⟩;have m:=af (o:= .lst (V.str C::r.map V.str)) nl;have i:upd H l (.lst (V.str C::r.map V.str)) l=some (.lst (V.str C::r.map V.str)):=aa;show W _ _ (upd H l (.lst (V.str C::r.map V.str)));generalize upd H l (.lst (V.str C::r.map V.str))=Z at*
  have u:=J.sm m;have j:=u;obtain⟨dx,tm,dl,d0,d1,wl,wk,X⟩:=j;rw[<-h_u1,aP];generalize h_u2:aP _=u2;exists i,X.hx;rw[if_neg n1];rw[<-h_u2,aP];generalize h_u3:aP _=u3;exists i,X.hx;rw[if_neg n2];rw[<-h_u3,aP];generalize h_u4:aP _=u4;exists i,X.hx;rw[if_neg n3];rw[<-h_u4,aP];generalize h_u5:aP _=u5;exists i,X.hx;rcases hc with⟨c,n,hn,rfl,rfl⟩|⟨c,hc⟩
  ·
   rw[if_pos c];exact⟨n,rfl,hn,fun E v=>⟨I,b,u.sm v,fun B G y=>q B (((cj.refl.same m).same v).trans G) y⟩⟩
  rw[if_neg c];rw[<-h_u5,aP];generalize h_u6:aP _=u6;exists i,X.hx;intro a1 sa _;refine⟨_,.inr (sa _),rfl,rfl,?_⟩;rcases hc with⟨d,rfl⟩|⟨d,hw,s,Y,rfl,rfl⟩
  ·
   rw[if_pos (in3.mpr d)];exact⟨I,b,u,d,fun B G y=>q B ((cj.refl.same m).trans G) y⟩
  rw[if_neg (fun z=>d (in3.mp z))];rw[<-h_u6,aP];exists i,X.hx;rw[if_pos (by rfl)];intro a2 O _;refine⟨_,.inr (O _),rfl,rfl,?_⟩;rw[if_pos (in4.mpr hw)];intro a3 Q _;refine⟨_,.inr (Q _),rfl,rfl,?_⟩;rw[if_pos (by rcases Y with rfl|rfl<;>decide)]
  exact⟨s,rfl,by lia,fun E v=>⟨Y,hw,I,b,u.sm v,fun B G y=>q B (((cj.refl.same m).same v).trans G) y⟩⟩
 ·
  rcases hb with d|d
  ·
   obtain⟨r,e⟩: ∃r,Txt.split z (Str.ofString " ")=Str.ofString "road" ::r:=by rcases d with rfl|rfl;exact⟨_,Fz⟩;exact⟨_,Fy⟩
   have hlen:z.length<=100000:=by rcases d with rfl|rfl<;>decide
   rw[e];refine⟨hlen,by decide,fun l nl=>?_⟩;have m:=af (o:= .lst (V.str (Str.ofString "road")::r.map V.str)) nl;have i:upd H l (.lst (V.str (Str.ofString "road")::r.map V.str)) l=some (.lst (V.str (Str.ofString "road")::r.map V.str)):=aa;show W _ _ (upd H l (.lst (V.str (Str.ofString "road")::r.map V.str)));generalize upd H l (.lst (V.str (Str.ofString "road")::r.map V.str))=Z at*
   have u:=J.sm m;have j:=u;obtain⟨dx,tm,dl,d0,d1,wl,wk,X⟩:=j;rw[<-h_u1,aP];generalize h_u2:aP _=u2;exists i,X.hx;exact⟨d,⟨I,u⟩,fun E v=>q E (m.trans v)⟩
  ·obtain⟨r,e⟩: ∃r,Txt.split z (Str.ofString " ")=Str.ofString "wish" ::r:=by
    rcases d with rfl|rfl
    ·exact⟨[dec 0,dec 0,Str.ofString "begin"],by decide+kernel⟩
    ·exact⟨[dec 400,dec 1,Str.ofString "read",dec 60],by decide+kernel⟩
   have hlen:z.length<=100000:=by rcases d with rfl|rfl<;>decide
   rw[e];refine⟨hlen,by decide,fun l nl=>?_⟩;have m:=af (o:= .lst (V.str (Str.ofString "wish")::r.map V.str)) nl;have i:upd H l (.lst (V.str (Str.ofString "wish")::r.map V.str)) l=some (.lst (V.str (Str.ofString "wish")::r.map V.str)):=aa;show W _ _ (upd H l (.lst (V.str (Str.ofString "wish")::r.map V.str)));generalize upd H l (.lst (V.str (Str.ofString "wish")::r.map V.str))=Z at*
   have u:=J.sm m;have j:=u;obtain⟨dx,tm,dl,d0,d1,wl,wk,X⟩:=j;rw[<-h_u1,aP];generalize h_u2:aP _=u2;exists i,X.hx;rw[if_neg (by decide)];rw[<-h_u2,aP];generalize h_u3:aP _=u3;exists i,X.hx;exact⟨d,⟨I,u⟩,fun E v=>q E (m.trans v)⟩
include T in theorem wM:MA P w K mg base bo "__init__" 1 ["self"] (ly bo):=by
 exists 0,T.mP,wB,ly;rename_i x;refine⟨_,(ae (aY (pv 0) bh T.j4 T.kh)
 (aj (aY (pv 0) au T.j4 T.bX))),?_⟩
 obtain⟨dx,hx,q⟩:=h;exists hx;exact q
include T in theorem t8:MA P w K mg base bo "hear_terms" 6 ["self","row"] (jY bo aO aD aG aC aB ag aE ay aI ar aJ aK ao ak aq aH az aA):=by
 exists 0,T.kX,nq,jY;rename_i x z;refine⟨_,(ae (a8 2 nq.1.nd (aW (DV T) HR (bI (pv 1))))
 (ae (bG (bN jU (pv 2) bh) (aj (aF bh)) bc)
 (ae (aY (pv 0) (rM T.bJ (wL T) HR (by decide) rfl (bI (pv 2))) T.j4 T.kh)
 (aj (aF aT))))),?_⟩
 obtain⟨dx,tk,n,B,hx,rfl,a,q⟩:=h;exists hx;refine⟨B,rfl,a,fun Q O F W y C m j _=>⟨C,rfl,fun dl d0 d1 wl d U G X I J E=>?_⟩⟩;have u:a7 O d:=cj.nw m (jM m j) U;have S:=F.trans u;have v:=S _ _ hx;refine⟨dx,_,v,by simp[br],?_⟩;rw[show bu (Str.ofString "talk") (V.ref y) (br tk (.int n))=br (V.ref y) (.int n) from by kernel_rfl];have s:cj x d (upd d x (.ins bo dx (br (V.ref y) (.int n)))):=cj.upd;have i:hk (.ins bo dx (br tk (.int n)))=1:=rfl;have H:bQ aO aD aG aC aB ag aE ay aH (tbl aI ar aJ aK ao ak aq) d y B false:=⟨C,Q,dl,d0,d1,wl,.non,G,W.same u,a,X,I,J,E,rfl⟩;exact q y _ ((cj.refl.same S).trans s) aa (H.ap s v i)
include T in theorem vy:MA P w K mg base bo "answer_to" 13 ["self","row"] (kJ bo aO aD aG aC aB ag aE ay aI ar aJ aK ao ak aq aH az aA av aw):=by
 exists 0,T.lS,vd,kJ;rename_i x z;refine⟨_,(ae (bG (cZ K HR (aZ K (kM K rfl PySem.F.plainAttrs_str PySem.F.slot_str_split PySem.F.type_str_split mj (pv 1) (bI aT)) au) aT) (aj (aF (jg (pv 0) T.j4 (t8 T) HR (bI (pv 1))))) bc)
 (aj (aF (jh (bN jU (aN (pv 0) T.j4 T.kh) bh) bh (jg (aN (pv 0) T.j4 T.kh) T.bJ (wK T) HR (bI (pv 1))))))),?_⟩
 obtain⟨dx,tk,n,hx,h⟩:=h;exists hx;rcases h with⟨j,rfl,i,q⟩|⟨⟨E,w,r,e,hw⟩,h⟩
 ·
  rw[zj i];refine⟨Nat.le_trans (uO i) (by decide),by decide,fun l nl=>?_⟩;exists aa;have d:=af (o:= .lst (V.str (Str.ofString "terms")::List.map V.str (List.map dec (nums j)))) nl;exact⟨dx,_,d _ _ hx,qW,dx,tk,n,j,d _ _ hx,rfl,i,fun y H' B=>q y H' ((cj.refl.same d).trans B)⟩
 ·
  rw[e];refine⟨by lia,by decide,fun l nl=>?_⟩;exists aa;rw[if_neg hw];have d:=af (o:= .lst (V.str w::List.map V.str r)) nl;generalize upd H l (.lst (V.str w::List.map V.str r))=G at*
  exists d _ _ hx;rcases h with⟨rfl,q⟩|⟨y,j,b,rfl,C,h⟩
  ·rw[if_pos rfl];exact q _ d
  rw[if_neg (by simp)];have v:=C.sm d;have m:=v;obtain⟨J,I,dl,d0,d1,wl,wk,X⟩:=m;exists X.hx;refine⟨j,b,v,?_⟩;rcases h with⟨a,ha,q⟩|⟨hb,u,q⟩
  ·exact .inl ⟨a,ha,fun H' B=>q H' ((cj.refl.same d).trans B)⟩
  ·exact .inr ⟨hb,u,fun H' s=>q H' (d.trans s)⟩
include T in theorem vv:MA P w K mg base aM "__init__" 1 ["self","at"] (kH aM):=by
 exists 0,T.lQ,vb,kH;rename_i e v;refine⟨_,(aj (vf T.yT T.j8 (pv 0) (pv 1))),?_⟩;obtain⟨he,q⟩:=h;exists he;exact⟨e,rfl,he,q⟩
include T in theorem rO:MA P w K mg base bo "say" 14 ["self","row"] (rB bo aO aD aG aC aB ag aE ay aI ar aJ aK ao ak aq aH az aA av aw aM):=by
 exists 1,T.uI,xP,rB;rename_i x z;refine⟨_,(ae (PS.nox (a8 2 xP.1.nd (jg (pv 0) T.j4 (vy T) HR (bI (pv 1)))))
 (ae (bG (PT.nox (bN jU (pv 2) bh)) (aj (nE T.yT (vv T) T.zX HR (by decide) rH rfl rfl rfl (bI (aN (pv 0) T.j4 T.bX)))) bc)
 (ae (PS.nox (MV (pv 0) au T.j4 T.bX Nn))
 (aj (PS.nox (aF (pv 2))))))),?_⟩
 obtain⟨dx,tk,n,hx,h⟩:=h;exists hx;refine⟨dx,tk,n,rfl,?_⟩;have U: ∀{i:Hp},a7 H i->(∀H' d,a7 H H'->H' d=some (.xd [("at",.int n)])->E (.ref aM) (some d) H')->∀(e:Addr),i e=none->∀(d:Addr),upd i e (HO.ext (xX e aM none)) d=none->∃dx,some (HO.ext (xX e aM (some d)))=some (HO.ext (xX e aM dx))/\E (Value.ref aM) dx (lg (upd (upd (upd i e (HO.ext (xX e aM none))) d (HO.xd [(Str.ofString "at",V.int n)])) e (HO.ext (xX e aM (some d)))) e):=fun j q e he d hd=>by
  obtain⟨s1,W⟩:=dropxl (C:=aM) (l:=[("at",.int n)]) j he hd;exact⟨_,rfl,q _ d s1 W⟩
 have s: ∀{y:V} {m:Int},hk (.ins bo dx (br y (.int m)))=1:=rfl;rcases h with⟨G,rfl,F,q⟩|⟨ho,h⟩
 ·
  refine .inl ⟨G,rfl,F,fun y i B v I=>?_⟩;exists v;exact q y _ (B.trans cj.upd) aa (I.ap cj.upd v s)
 ·
  refine .inr ⟨ho,?_⟩;rcases h with⟨rfl,q⟩|⟨y,G,b,rfl,Q,h⟩
  ·
   refine .inl ⟨rfl,fun i j=>?_⟩;exists j _ _ hx;exact U j q
  ·
   refine .inr ⟨y,G,b,rfl,Q,?_⟩;have J:x≠y:=by
    obtain⟨dy,Z,dl,d0,d1,wl,wk,X⟩:=Q;exact Jq hx X.hx (by rw[show hk (.ins bo dx (br (.ref y) (.int n)))=1 from rfl,show hk (.ins aO dy (bB (.ref Z) (.ref dl) (.ref wl) wk))=2 from rfl];decide)
   rcases h with⟨a,ha,q⟩|⟨hb,O,q⟩
   ·
    refine .inl ⟨a,ha,fun i B I=>?_⟩;have v:=B _ _ hx J;exists v;exact q _ (fun c u e n1 Y=>by rw[ah n1];exact B _ _ e Y) aa (I.ap cj.upd v s)
   ·
    refine .inr ⟨hb,O,fun i j=>?_⟩;exists j _ _ hx;exact U j q
include T in theorem qR:FA P w K mg base "_law_cell_at" 1 ["_law_script","_law_k"] (mD K):=by
 exists 0,T.nW,ye,mD;rename_i a k;refine⟨_,(ae (bG (bN DT (pv 1) (aL (m9 K rfl) (by rfl) T.hV cF (bI (pv 0)))) (aj (aF (vg K (pv 0) (pv 1)))) bc)
 (aj (aF au))),?_⟩
 obtain⟨ns,d,h0,q⟩:=h;exists 9;refine⟨_,.inl d,?_⟩;rw[List.length_map];split
 ·rename_i c;exact KQ d h0 c (q _)
 ·exact q _
include T in theorem i3:FA P w K mg base "_law_mixed" 1 ["_law_cell","_law_k"] oJ:=by
 exists 0,T.qx,lZ,oJ;rename_i c k;refine⟨_,(ae (bG (PW.pt (pw_and (bN N6 (pv 0) (bz M9 au au)) (pw_and (cZ K HR (bz jj (pv 0) au) au) (pw_and1 (bN BS (bz Jm (pv 0) (a9 K au (bz j3 au (pv 1)))) au))))) (aj (aF (bz jj (bz Jm (pv 0) (a9 K au (bz j3 au (pv 1)))) au))) bc)
 (bb (ae (a8 2 lZ.1.nd (a9 K (bz jj (pv 0) au) au))
 (ae (rL PassesOwn.never rfl (BR rfl T.y7 (bI au)) (a6 3 lZ.1.nd) (aj (a8 2 lZ.1.nd (bz jj (a9 K (a9 K (bz j3 (pv 2) (pv 2)) (bz j3 au (pv 2))) (pv 1)) au))))
 (aj (aF (pv 2))))))),?_⟩
 obtain⟨⟨k0,k1⟩,q⟩:=h;generalize h_u1:aP _=j;exists 9;have sh:NW 1 90:=⟨⟨by decide,by decide⟩,by decide+kernel,by decide+kernel⟩;have fin:j {nx:=fun x H'=>Q V.non H',rt:=Q} [some (V.int c),some (V.int k),none,none] H:=by
  rw[<-h_u1,aP];exists 9;refine Xf (lo:=0) (n:=2) (fun i σ H'=>H'=H/\∃v a,σ= [some (.int c),some (.int k),some (.int v),a]/\0<=v/\v<3000000000) ⟨rfl,_,none,rfl,by lia,by lia⟩ (fun i σ H' _ d=>?_) (fun σ H' d=>?_)
  ·
   obtain⟨rfl,v,a,rfl,h0,h1⟩:=d;exists 9;exact⟨.inl ⟨by lia,by lia⟩,_,_,rfl,Int.emod_nonneg _ (by decide),Int.lt_trans (Int.emod_lt_of_pos _ (by decide)) (by decide)⟩
  ·
   obtain⟨rfl,v,a,rfl,h0,h1⟩:=d;exists 9;exact q v _ (a7.refl _) h0
 refine⟨sh,tD (fun _=>tD (fun _=>⟨by lia,tD (fun _=>⟨by lia,q _ _ (a7.refl _) (Int.emod_nonneg _ (by decide))⟩) fun _=>fin⟩) fun _=>fin) fun _=>fin⟩
include T in theorem yp:FA P w K mg base "_law_numbers" 2 ["_law_cell"] mC:=by
 exists 0,T.nV,bM,mC;rename_i c;refine⟨_,(ae (a8 1 bM.1.nd (bS (cK (a9 K au (bz jj (aW (i3 T) HR (cK (pv 0) au)) au)) (a9 K au (bz jj (aW (i3 T) HR (cK (pv 0) au)) au)))))
 (bb (MR (bG (bN BS (bz jj (pv 0) au) au) (aj (a8 1 bM.1.nd (bS (cK (a9 K au (bz jj (bz sX (pv 0) au) au)) (a9 K au (bz jj (bz sX (pv 0) au) au)))))) bc)
 (bb (ae (a8 2 bM.1.nd (a9 K au (bz jj (aW (i3 T) HR (cK (pv 0) au)) au)))
 (bb (ae (a8 3 bM.1.nd (a9 K au (bz sX (pv 2) au)))
 (bb (ae (rL PassesOwn.never rfl (bC K rfl (pv 1)) (a6 4 bM.1.nd) (aj (bG (bN BS (pv 4) au) (aj (a8 3 bM.1.nd (aL (Cb rfl) (by rfl) T.AB Az (cK (pv 3) (bz tZ (a9 K (bz j3 au (pv 4)) (pv 2)) au))))) bc)))
 (bb (ae (a8 5 bM.1.nd (a9 K au (bz jj (aW (i3 T) HR (cK (pv 0) au)) au)))
 (bb (ae (a8 6 bM.1.nd (a9 K (pv 5) (bz jj (aW (i3 T) HR (cK (pv 0) au)) (bz tZ au (pv 5)))))
 (bb (aj (aF (a9 K (a9 K (bS (bI (a9 K (pv 3) (bz jj (aW (i3 T) HR (cK (pv 0) au)) (bz tZ au (pv 3)))))) (pv 1)) (bS (eQ (pv 2) (cK (pv 5) (pv 6))))))))))))))))))))),?_⟩
 have q:=h;generalize h_u1:aP _=u1;exists 9;intro y H1 S1 O B Z S2 W p np;have J:=(S1.trans S2).trans (af (o:= .lst [V.int (1+y % 16),V.int (1+B % 16)]) np);have C:upd Z p (.lst [V.int (1+y % 16),V.int (1+B % 16)]) p=some (.lst [V.int (1+y % 16),V.int (1+B % 16)]):=aa;generalize upd Z p (.lst [V.int (1+y % 16),V.int (1+B % 16)])=H3 at*
 rw[<-h_u1,aP];generalize h_u2:aP _=u2;refine⟨fun σ H'=> ∃p o t,a7 H H'/\σ= [some (V.int c),some (V.ref p),none,none,none,none,none]/\H' p=some (.lst [V.int o,V.int t])/\(1<=o/\o<=16)/\(1<=t/\t<=16),?_,?_⟩
 ·
  exists 9;refine tD (fun _ p2 G=>⟨p2,_,_,J.trans (af G),rfl,aa,by lia,by lia⟩) fun _=>⟨p,_,_,J,rfl,C,by lia,by lia⟩
 clear C J np S2 S1 O W;rintro σ H4 ⟨p,o,t,S4,rfl,C,ho,ht⟩;rw[<-h_u2,aP];generalize h_u3:aP _=u3;exists 9;intro v3 H5 S5 v3n;have d:=S5 _ _ C;obtain⟨g,eg⟩: ∃g,g=1+v3 % 32:=⟨_,rfl⟩;rw[<-eg];have hg:1<=g/\g<=32:=by lia
 clear eg;rw[<-h_u3,aP];generalize h_u4:aP _=u4;exists 9;rw[<-h_u4,aP];generalize h_u5:aP _=u5;exists d;refine vE (bO.of d) (fun i σ H'=>H'=H5/\∃v m,σ= [some (V.int c),some (V.ref p),some (V.int g),some (V.int m),v,none,none]/\2+g / 2<=m/\m<=63/\(1<=i->1<o->2*o+g - 1<=m)/\(2<=i->1<t->2*t+g - 1<=m)) ⟨rfl,_,_,rfl,by lia,by lia,by lia,by lia⟩ (fun i σ H' _ h=>by obtain⟨rfl,_⟩:=h;exact bO.of d) (fun i x σ H' hx h=>?_) (fun σ H' h=>?_)
 ·
  obtain⟨rfl,v,m,rfl,X,I,E,m4⟩:=h
  match i,hx with
  |0,hx=>
   simp at hx;subst hx;exists 9;refine tD (fun u=>?_) fun u=>⟨_,_,rfl,X,I,fun _ j=>absurd j u,fun j=>absurd j (by decide)⟩;exact⟨_,_,rfl,by split<;>lia,by split<;>lia,fun _ _=>by split<;>lia,fun j=>j.elim⟩
  |1,hx=>
   simp at hx;subst hx;exists 9;refine tD (fun u=>?_) fun u=>⟨_,_,rfl,X,I,fun _=>E (by decide),fun _ j=>absurd j u⟩;exact⟨_,_,rfl,by split<;>lia,by split<;>lia,fun _ j=>by have:=E (by decide) j;split<;>lia,fun _ _=>by split<;>lia⟩
  |i+2,hx=>simp at hx
 ·
  obtain⟨rfl,v,m,rfl,X,I,E,m4⟩:=h;show u5 _ _ _;rw[<-h_u5,aP];generalize h_u6:aP _=u6;exists 9;intro v4 H6 S6 v4n;obtain⟨f,ef⟩: ∃f,f=2+v4 % 63:=⟨_,rfl⟩;rw[<-ef];have hf:2<=f/\f<=64:=by lia
  clear ef;rw[<-h_u6,aP];generalize h_u7:aP _=u7;exists 9;intro Y H7 S7 v5n;refine⟨by lia,?_⟩;have l1:=Int.emod_nonneg Y (show(65 - f:Int)≠0 by lia);have l2:=Int.emod_lt_of_pos Y (show(0:Int)<65 - f by lia);obtain⟨l,el⟩: ∃l,l=f+Y % (65 - f):=⟨_,rfl⟩;rw[<-el];have hl:f<=l/\l<=64:=by lia
  clear el l1 l2;have S8:=(S4.trans S5).trans (S6.trans S7);have n:=S7 _ _ (S6 _ _ d);rw[<-h_u7,aP];exists n;intro U H8 S9 v6n;refine⟨by lia,fun a na=>?_⟩;have r1:=Int.emod_nonneg U (show(65 - m:Int)≠0 by lia);have r2:=Int.emod_lt_of_pos U (show(0:Int)<65 - m by lia);obtain⟨r,er⟩: ∃r,r=m+U % (65 - m):=⟨_,rfl⟩;rw[<-er];have hr:m<=r/\r<=64:=by lia
  clear er r1 r2;have ha:upd H8 a (.lst [V.int r]) a=some (.lst [V.int r]):=aa;have s:=S9.trans (af (o:= .lst [V.int r]) na);generalize upd H8 a (.lst [V.int r])=z at*
  rw[kb];refine .inl ⟨_,_,_,_,rfl,rfl,ha,s _ _ n,by rw[sizeLine_eq];simp,fun b nb=>?_⟩;show∀(p:Addr),upd z b (.lst [V.int r,V.int o,V.int t]) p=none->tL K (.ref b) (V.ref p) (upd (upd z b (.lst [V.int r,V.int o,V.int t])) p (HO.lst [V.int g,V.int f,V.int l])) Q;have hb:upd z b (.lst [V.int r,V.int o,V.int t]) b=some (.lst [V.int r,V.int o,V.int t]):=aa;have F:=s.trans (af (o:= .lst [V.int r,V.int o,V.int t]) nb);generalize upd z b (.lst [V.int r,V.int o,V.int t])=H10 at*
  intro e ne;rw[kb];refine .inl ⟨_,_,_,_,rfl,rfl,af ne _ _ hb,aa,by rw[sizeLine_eq];simp,fun w nw=>?_⟩;refine q ⟨r,o,t,g,f,l⟩ w _ (S8.trans ((F.trans (af ne)).trans (af nw))) ⟨⟨show 2<=r/\r<=64 by lia,⟨ho,ht⟩,hg,show 2<=l/\l<=64 by lia,show 2<=f/\f<=l by lia⟩,?_⟩ aa;show¬r<oZ o t g;have k1:lb o g<=m:=by
   unfold lb;split
   ·lia
   ·exact E (show 1<=2 by decide) (by lia)
  have k2:lb t g<=m:=by
   unfold lb;split
   ·lia
   ·exact m4 (show 2<=2 by decide) (by lia)
  unfold oZ;split<;>lia
noncomputable def E9:List Str:=["state 0","state 1","stand 0","stand 1","in 0","in 1","out 0","out 1","quiet","kept","bound"]
noncomputable def E8:List Str:=["turn 0","turn 3","run 0","run 7","road 0","road 1 1,0,0","wish 0 0 begin","wish 1 1 end"]
noncomputable def NJ:List Str:=E9++E8++ [Str.ofString "wish 0 1 put a b"]
theorem Xp: ∀z∈NJ,XE z:=by
 have h: ∀z∈NJ,z.length<=1000/\((Txt.split z (Str.ofString " ")).head?.map fun w=>decide (w≠Str.ofString "terms"))=some true:=by decide+kernel
 intro z d;obtain⟨h1,a⟩:=h z d;cases e:Txt.split z (Str.ofString " ") with
 |nil=>rw[e] at a;cases a
 |cons w r=>
  rw[e] at a;exact⟨h1,w,r,e,of_decide_eq_true (Option.some.inj a)⟩
include T in theorem AR:FA P w K mg base "_law_early" 1 ["_law_cell"] oK:=by
 exists 0,T.qy,oS,oK;rename_i c;refine qex (fZ (FL (i:=1) oS.1.nd rfl (Or.inl rfl) ⟨(bS (Jl (vs:=[.str "state 0",.str "state 1",.str "stand 0",.str "stand 1",.str "in 0",.str "in 1",.str "out 0",.str "out 1",.str "quiet",.str "kept",.str "bound"]) (by kernel_rfl)))⟩)
 (fY (fZ ⟨(a8 1 oS.1.nd (a9 K (pv 1) (bS (Jl (vs:=[.str "turn 0",.str "turn 3",.str "run 0",.str "run 7",.str "road 0",.str "road 1 1,0,0",.str "wish 0 0 begin",.str "wish 1 1 end"]) (by kernel_rfl)))))⟩
 (fY (fZ ⟨(jf (qd K rfl (pv 1) aT))⟩
 (fY (CK ⟨(aF (aZ K (pv 1) (bz jj (pv 0) au)))⟩))))))) ?_
 have q:=h;generalize h_u1:aP _=X;exists 9;intro p Q;have I:=af (o:= .lst (E9.map V.str)) Q;have E:upd H p (.lst (E9.map V.str)) p=some (.lst (E9.map V.str)):=aa;show X _ _ (upd H p (.lst (E9.map V.str)));generalize upd H p (.lst (E9.map V.str))=v at*
 rw[<-h_u1,aP];generalize h_u2:aP _=W;exists 9;intro d n;have C:=I.trans (af (o:= .lst (E8.map V.str)) n);have nn:p≠d:=ax E n;have B:upd v d (.lst (E8.map V.str)) d=some (.lst (E8.map V.str)):=aa;have x:upd v d (.lst (E8.map V.str)) p=some (.lst (E9.map V.str)):=by rw[ah nn];exact E
 show tL K _ _ (upd v d (.lst (E8.map V.str))) _;generalize upd v d (.lst (E8.map V.str))=z at*
 rw[kb];refine .inl ⟨_,_,_,_,rfl,rfl,x,B,by rw[sizeLine_eq];simp[E9,E8],fun a s=>?_⟩;have J:=C.trans (af (o:= .lst ((E9++E8).map V.str)) s);have m:upd z a (.lst ((E9++E8).map V.str)) a=some (.lst ((E9++E8).map V.str)):=aa;have pf: ∀{b u},H b=some u->b≠a:=fun e=>ax (C _ _ e) s;show W _ _ (upd z a (.lst ((E9++E8).map V.str)));generalize upd z a (.lst ((E9++E8).map V.str))=y at*
 rw[<-h_u2,aP];generalize h_u3:aP _=Z;exists m;refine⟨qX (bO.of m),by rw[sizeLine_eq];simp[E9,E8],?_⟩;rw[show List.map V.str (E9++E8)++ [V.str (Str.ofString "wish 0 1 put a b")]=NJ.map V.str from rfl];have U:upd y a (.lst (NJ.map V.str)) a=some (.lst (NJ.map V.str)):=aa;have G:a7 H (upd y a (.lst (NJ.map V.str))):=fun b u e=>by rw[ah (pf e)];exact J _ _ e
 generalize upd y a (.lst (NJ.map V.str))=H4 at*
 rw[<-h_u3,aP];exists U;have Y:=Int.emod_nonneg c (show(20:Int)≠0 by decide);have m2:=Int.emod_lt_of_pos c (show(0:Int)<20 by decide);obtain⟨j,O⟩: ∃j:Nat,c % 20=j:=⟨(c % 20).toNat,by lia⟩;rw[O];have F:j<NJ.length:=by show j<20;lia
 refine⟨V.str NJ[j],x6 (by rw[List.getElem?_map,List.getElem?_eq_getElem F];rfl),q _ _ G (Xp _ (List.getElem_mem F))⟩
theorem Mg {T:T6}:Str.ofString "terms " ++Txt.join (Str.ofString " ") ((nums T).map dec)=trow T:=by
 unfold trow;rw[qr,qr];show _=(Str.ofString "terms" ++Str.ofString " ")++Str.join (Str.ofString " ") ((nums T).map dec);rw[show Str.ofString "terms" ++Str.ofString " " = Str.ofString "terms " by decide+kernel]
include T in theorem oz:FA P w K mg base "_law_terms_row" 1 ["_law_numbers_here"] ku:=by
 exists 0,T.lH,uZ,ku;rename_i p;refine⟨_,(aj (aF (a9 K aT (kM K rfl PySem.F.plainAttrs_str PySem.F.slot_str_join PySem.F.type_str_join (pI K rfl) aT (bI (b8 (N:=(["_law_number"]:List Str)) (nv:=1) (ix:=[]) rfl (iX (by kernel_rfl)) (bC K rfl (pv 0)) (fun _ _ _ _ _=>(a6 0 (show((["_law_number"]:List Str)).Nodup by decide))) (fun _ _ _ _ _=>bR) (fun _ _ _ _ _=>(cb fU (by rfl) T.oG mQ (bI (pv 0)))))))))),?_⟩;obtain⟨d,s,B,q⟩:=h;exists 9;have a:=s.lt;refine kY (p:=fun _=>true) (f:=fun v=>match v with | .int i=> .str (dec i)|_=> .non) (bO.of B) (ba (by simp[nums])) (fun x _ Q h=>h) (fun x hx _ Q h=>?_) ?_
 ·
  obtain⟨i,m,rfl⟩:=List.mem_map.mp hx;obtain⟨n,u⟩:=a i m;exists 9;exact⟨i,rfl,vU n u,h⟩
 rw[List.filter_eq_self.mpr (fun _ _=>rfl),List.map_map];have y:(((nums d).map dec).map (·.length)).sum<=((nums d).map dec).length*9:=Cn fun w hw=>by
  obtain⟨i,m,rfl⟩:=List.mem_map.mp hw;obtain⟨n,u⟩:=a i m;exact uy n 9 (by decide) (by lia)
 have z:=De (Str.ofString " ") ((nums d).map dec);have j:(nums d).length=6:=rfl;rw[List.length_map,j] at y;rw[List.length_map,j,show(Str.ofString " ").length=1 by decide] at z;refine⟨by rw[List.length_map,j,sizeLine_eq];lia,fun l nl=>⟨(nums d).map dec,?_,?_,?_,?_⟩⟩
 ·rw[List.map_map];exact bO.of aa
 ·rw[List.length_map,j,show(Str.ofString " ").length=1 by decide];lia
 ·rw[show(Str.ofString "terms ").length=6 by decide,sizeLine_eq];lia
 ·
  rw[Mg];exact q _ (af nl)
include T in theorem AS:FA P w K mg base "_law_bound" 1 ["_law_numbers_here"] oM:=by
 exists 0,T.qz,fV,oM;rename_i p;refine⟨_,(ae (FO (pv 0) (sV K (n:=6) rfl rfl (mR (a6 1 fV.1.nd) (mR (a6 2 fV.1.nd) (mR (a6 3 fV.1.nd) (mR (a6 4 fV.1.nd) (mR (a6 5 fV.1.nd) (mR (a6 6 fV.1.nd) sU))))))))
 (aj (aF (a9 K (a9 K (bz j3 (a9 K (a9 K (pv 2) (pv 3)) au) (a9 K (a9 K (a9 K (pv 6) (pv 4)) (bz j3 au (pv 4))) au)) (bz j3 au (pv 4))) au)))),?_⟩
 obtain⟨a,i,d,q⟩:=h;replace d:H p=some (.lst [.int a.r,.int a.o,.int a.t,.int a.g,.int a.f,.int a.l]):=d;exists d;obtain⟨v,⟨u,x⟩,s,m,j⟩:=i.1;exact⟨.inl (by lia),q _ (a7.refl _)⟩
include T in theorem mF:FA P w K mg base "_law_refused" 15 ["_law_desk","_law_row","_law_at"] (mB bo aO aD aG aC aB ag aE ay aI ar aJ aK ao ak aq aH az aA av aw aM aU):=by
 exists 0,T.nU,ij,mB;rename_i d z n;refine⟨_,(ae (a8 3 ij.1.nd bh)
 (ae (EJ (fun _ _ _=>(aj (jf (UX (pv 0) T.j4 (rO T) HR (by decide) (zJ rfl) (bI (pv 1)))))) (MX (i:=4) rfl T.pV rfl ij.1.nd rfl rfl (fun _=>(aj (a8 3 ij.1.nd (pv 4)))) EM))
 (bb (ae (bG (PW.pt (pw_or (lA (qS (aL (Cc K rfl) (by rfl) T.bf bg (cK (pv 3) (zG T.y8 rfl))))) (pw_or1 (qS (aL (Fm K rfl) (by rfl) T.bf bg (cK (pv 3) (j2 (eQ (zG T.pX rfl) (eQ (zG T.om rfl) (cK (zG T.tQ rfl) (zG T.pW rfl))))))))))) (aj (aF zH)) bc)
 (bb (ae (a8 5 ij.1.nd (Ji K rfl (pv 3) rfl))
 (bb (aj (aF (bH (aL (Cc K rfl) (by rfl) T.bf bg (cK (pv 3) (mS rfl T.qH Bu))) (bH (aL (km K rfl) (by rfl) T.bf bg (cK (pv 5) (mS rfl T.AE AA))) (bH (zF (aL (km K rfl) (by rfl) T.bf bg (cK (pv 5) (mS rfl T.xI y6)))) (jI (l0 (l5 K rfl HR.units) (pv 5) (pv 2))))))))))))))),?_⟩
 obtain⟨dx,tk,hd,ho,ht,q⟩:=h;generalize h_u1:aP _=U;exists hd;refine⟨dx,tk,n,rfl,.inr ⟨ho,?_⟩⟩;have fin: ∀(j:Hp) (dd:Addr),a7 H j->j dd=some (.xd [("at",.int n)])->Nq (isx K (Value.ref aM) aU) (∀(a:Addr),j a=none->U {nx:=fun x H'=>Q V.non H',rt:=Q} [some (V.ref d),some (V.str z),some (V.int n),some (V.ref a),none,none] (upd j a (HO.ext (oh a (Value.ref aM) (some dd))))) False:=fun j dd F h1=>by
  rw[T.b9];intro a m;have nd:dd≠a:=ax h1 m;have E:=F.trans (af (o:= .ext (oh a (.ref aM) (some dd))) m);have B:upd j a (.ext (oh a (.ref aM) (some dd))) a=some (.ext (oh a (.ref aM) (some dd))):=aa;have C:upd j a (.ext (oh a (.ref aM) (some dd))) dd=some (.xd [("at",.int n)]):=by rw[ah nd];exact h1
  generalize upd j a (.ext (oh a (.ref aM) (some dd)))=J at*
  rw[<-h_u1,aP];generalize h_u2:aP _=O;exists B,C,T.pL,T.fX,T.nz,T.cp,T.cz,T.d5,T.ff,T.gs,T.gU,T.d4,T.fc,T.d8,T.fq,T.cP,T.dc,T.dZ,T.fb,T.d7,T.fj,T.gu,T.gV,T.d6,T.fh,T.iC,T.iT,T.rX,T.ib,T.pD,T.cL,T.c7,T.f_,T.gF,T.ik,T.iH,T.f9,T.gE,T.gd,T.gI,T.dG,T.eR,T.f7,T.gD,T.gc,T.gH,T.ip,T.iI,T.gb,T.gG,T.jb,T.jn,T.pK,T.ig,T.nu,T.cn,T.cy,T.dU,T.e7,T.gq,T.gS,T.dS,T.e6,T.dY,T.e_,T.cO,T.c_,T.dR,T.eZ,T.dX,T.e9,T.gr,T.gT,T.dW,T.e8,T.iB,T.iS,T.pO,T.iZ,T.nC,T.cw,T.cD,T.eL,T.fO,T.gA,T.g8,T.eK,T.fN,T.eP,T.fR,T.cY,T.dz,T.eJ,T.fM,T.eO,T.fQ,T.gB,T.g9,T.eN,T.fP,T.iF,T.iW,T.nN,T.mf,T.bW,T.bY,T.cU,T.dn,T.eG,T.fK,T.cT,T.di,T.cX,T.du,T.cv,T.cC,T.cS,T.dh,T.cW,T.dr,T.eI,T.fL,T.cV,T.dq,T.gz,T.g7,T.pJ,T.cI,T.nr,T.cm,T.cx,T.dJ,T.eU,T.gf,T.gJ,T.dI,T.eT,T.dO,T.eX,T.cM,T.c8,T.dH,T.eS,T.dN,T.eW,T.gg,T.gK,T.dM,T.eV,T.iq,T.iJ,T.pN,T.nB,T.cu,T.cB,T.eB,T.fF,T.gx,T.gY,T.eA,T.fE,T.eF,T.fJ,T.cR,T.dg,T.ez,T.fB,T.eE,T.fH,T.gy,T.gZ,T.eC,T.fG,T.iE,T.iV,T.rY,T.ie,T.ja,T.pE,T.cN,T.c9,T.gk,T.gN,T.ir,T.iK,T.gj,T.gM,T.gp,T.gQ,T.dP,T.eY,T.gi,T.gL,T.gn,T.gP,T.iw,T.iL,T.gm,T.gO,T.jc,T.jo,T.pM,T.iY,T.nA,T.cq,T.cA,T.eh,T.fv,T.gv,T.gW,T.d_,T.fu,T.et,T.fA,T.cQ,T.df,T.d9,T.ft,T.en,T.fz,T.gw,T.gX,T.ek,T.fw,T.iD,T.iU,T.sY,T.j8,T.rK,T.dQ,T.b9,T.iz,T.iO,T.jd,T.jq,T.iy,T.iN,T.dE,T.iR,T.cJ,T.gR,T.dB,T.iM,T.iA,T.iQ,T.je,T.jr,T.dC,T.iP,T.jN,T.jQ;intro p v;have I:=E.trans (af (o:= .tup [V.ref av,V.ref az,V.ref aw,V.ref aA]) v);have u:=af (o:= .tup [V.ref av,V.ref az,V.ref aw,V.ref aA]) v _ _ B;have s:=af (o:= .tup [V.ref av,V.ref az,V.ref aw,V.ref aA]) v _ _ C;generalize upd J p (.tup [V.ref av,V.ref az,V.ref aw,V.ref aA])=Y at*
  refine⟨aM,some dd,u,T.sY,⟨_,s⟩,?_⟩;rw[T.dE,T.cJ,T.dC,T.dB,E1,E1,E1];show O _ _ _;rw[<-h_u2,aP];generalize h_u3:aP _=X;exists u,s,T.pL,T.fX,T.nz,T.cp,T.cz,T.d5,T.ff,T.gs,T.gU,T.d4,T.fc,T.d8,T.fq,T.cP,T.dc,T.dZ,T.fb,T.d7,T.fj,T.gu,T.gV,T.d6,T.fh,T.iC,T.iT,T.rX,T.ib,T.pD,T.cL,T.c7,T.f_,T.gF,T.ik,T.iH,T.f9,T.gE,T.gd,T.gI,T.dG,T.eR,T.f7,T.gD,T.gc,T.gH,T.ip,T.iI,T.gb,T.gG,T.jb,T.jn,T.pK,T.ig,T.nu,T.cn,T.cy,T.dU,T.e7,T.gq,T.gS,T.dS,T.e6,T.dY,T.e_,T.cO,T.c_,T.dR,T.eZ,T.dX,T.e9,T.gr,T.gT,T.dW,T.e8,T.iB,T.iS,T.pO,T.iZ,T.nC,T.cw,T.cD,T.eL,T.fO,T.gA,T.g8,T.eK,T.fN,T.eP,T.fR,T.cY,T.dz,T.eJ,T.fM,T.eO,T.fQ,T.gB,T.g9,T.eN,T.fP,T.iF,T.iW,T.nN,T.mf,T.bW,T.bY,T.cU,T.dn,T.eG,T.fK,T.cT,T.di,T.cX,T.du,T.cv,T.cC,T.cS,T.dh,T.cW,T.dr,T.eI,T.fL,T.cV,T.dq,T.gz,T.g7,T.pJ,T.cI,T.nr,T.cm,T.cx,T.dJ,T.eU,T.gf,T.gJ,T.dI,T.eT,T.dO,T.eX,T.cM,T.c8,T.dH,T.eS,T.dN,T.eW,T.gg,T.gK,T.dM,T.eV,T.iq,T.iJ,T.pN,T.nB,T.cu,T.cB,T.eB,T.fF,T.gx,T.gY,T.eA,T.fE,T.eF,T.fJ,T.cR,T.dg,T.ez,T.fB,T.eE,T.fH,T.gy,T.gZ,T.eC,T.fG,T.iE,T.iV,T.rY,T.ie,T.ja,T.pE,T.cN,T.c9,T.gk,T.gN,T.ir,T.iK,T.gj,T.gM,T.gp,T.gQ,T.dP,T.eY,T.gi,T.gL,T.gn,T.gP,T.iw,T.iL,T.gm,T.gO,T.jc,T.jo,T.pM,T.iY,T.nA,T.cq,T.cA,T.eh,T.fv,T.gv,T.gW,T.d_,T.fu,T.et,T.fA,T.cQ,T.df,T.d9,T.ft,T.en,T.fz,T.gw,T.gX,T.ek,T.fw,T.iD,T.iU,T.sY,T.j8,T.rK,T.dQ,T.b9,T.iz,T.iO,T.jd,T.jq,T.iy,T.iN,T.dE,T.iR,T.cJ,T.gR,T.dB,T.iM,T.iA,T.iQ,T.je,T.jr,T.dC,T.iP,T.jN,T.jQ;refine⟨V.int n,rfl,?_⟩;rw[<-h_u3,aP];exists u,s,T.pL,T.fX,T.nz,T.cp,T.cz,T.d5,T.ff,T.gs,T.gU,T.d4,T.fc,T.d8,T.fq,T.cP,T.dc,T.dZ,T.fb,T.d7,T.fj,T.gu,T.gV,T.d6,T.fh,T.iC,T.iT,T.rX,T.ib,T.pD,T.cL,T.c7,T.f_,T.gF,T.ik,T.iH,T.f9,T.gE,T.gd,T.gI,T.dG,T.eR,T.f7,T.gD,T.gc,T.gH,T.ip,T.iI,T.gb,T.gG,T.jb,T.jn,T.pK,T.ig,T.nu,T.cn,T.cy,T.dU,T.e7,T.gq,T.gS,T.dS,T.e6,T.dY,T.e_,T.cO,T.c_,T.dR,T.eZ,T.dX,T.e9,T.gr,T.gT,T.dW,T.e8,T.iB,T.iS,T.pO,T.iZ,T.nC,T.cw,T.cD,T.eL,T.fO,T.gA,T.g8,T.eK,T.fN,T.eP,T.fR,T.cY,T.dz,T.eJ,T.fM,T.eO,T.fQ,T.gB,T.g9,T.eN,T.fP,T.iF,T.iW,T.nN,T.mf,T.bW,T.bY,T.cU,T.dn,T.eG,T.fK,T.cT,T.di,T.cX,T.du,T.cv,T.cC,T.cS,T.dh,T.cW,T.dr,T.eI,T.fL,T.cV,T.dq,T.gz,T.g7,T.pJ,T.cI,T.nr,T.cm,T.cx,T.dJ,T.eU,T.gf,T.gJ,T.dI,T.eT,T.dO,T.eX,T.cM,T.c8,T.dH,T.eS,T.dN,T.eW,T.gg,T.gK,T.dM,T.eV,T.iq,T.iJ,T.pN,T.nB,T.cu,T.cB,T.eB,T.fF,T.gx,T.gY,T.eA,T.fE,T.eF,T.fJ,T.cR,T.dg,T.ez,T.fB,T.eE,T.fH,T.gy,T.gZ,T.eC,T.fG,T.iE,T.iV,T.rY,T.ie,T.ja,T.pE,T.cN,T.c9,T.gk,T.gN,T.ir,T.iK,T.gj,T.gM,T.gp,T.gQ,T.dP,T.eY,T.gi,T.gL,T.gn,T.gP,T.iw,T.iL,T.gm,T.gO,T.jc,T.jo,T.pM,T.iY,T.nA,T.cq,T.cA,T.eh,T.fv,T.gv,T.gW,T.d_,T.fu,T.et,T.fA,T.cQ,T.df,T.d9,T.ft,T.en,T.fz,T.gw,T.gX,T.ek,T.fw,T.iD,T.iU,T.sY,T.j8,T.rK,T.dQ,T.b9,T.iz,T.iO,T.jd,T.jq,T.iy,T.iN,T.dE,T.iR,T.cJ,T.gR,T.dB,T.iM,T.iA,T.iQ,T.je,T.jr,T.dC,T.iP,T.jN,T.jQ;rw[show decide True=true from rfl];exact q _ I
 rcases ht with rfl|⟨y,W,rfl,G,hb⟩
 ·exact .inl ⟨rfl,fin⟩
 ·exact .inr ⟨y,W,true,rfl,G,.inr ⟨rfl,hb,fin⟩⟩
noncomputable def E_:Nat->List (Str×Str)
 |0=>[]
 |1=>[("state 0","shut"),("stand 0","0 0 1 0 0"),("in 0",""),("out 0","")]
 |_=>[("state 0","shut"),("stand 0","0 0 1 0 0"),("in 0",""),("out 0",""),("state 1","shut"),("stand 1","0 0 1 0 0"),("in 1",""),("out 1","")]
def PrT (H:Hp) (x:Addr) (w:Str×Str):Prop:=H x=some (.tup [.str w.1,.str w.2])
def Due (H:Hp) (p:Addr) (ws:List (Str×Str)) (xs:List Addr):Prop:=H p=some (.lst (xs.map V.ref))/\Paired (PrT H) xs ws
theorem LH (i:Nat):(E_ i).length<=8:=by
 match i with
 |0=>decide
 |1=>decide
 |i+2=>exact Nat.le_refl 8
theorem Xy {T:T6} (h:T.ok):0<=bnd T/\bnd T<1000000000:=by
 obtain⟨s,⟨n,u⟩,j,d,a⟩:=h.1;unfold bnd;have i:0<=(T.o+T.t+1)*(T.l+T.g+2*T.g+4):=Int.mul_nonneg (by lia) (by lia);have m:(T.o+T.t+1)*(T.l+T.g+2*T.g+4)<=33*164:=Int.mul_le_mul (by lia) (by lia) (by lia) (by lia);lia
theorem LG {i:Nat} {x:V} (h: [V.str (Str.ofString "0"),V.str (Str.ofString "1")][i]?=some x): ∃zs:Str,x = .str zs/\zs.length=1/\E_ (i+1)=E_ i++ [(Str.ofString "state " ++zs,Str.ofString "shut"),(Str.ofString "stand " ++zs,Str.ofString "0 0 1 0 0"),(Str.ofString "in " ++zs,Str.ofString ""),(Str.ofString "out " ++zs,Str.ofString "")]:=by
 match i,h with
 |0,h=>exact⟨_,(Option.some.inj h).symm,by decide,by decide+kernel⟩
 |1,h=>exact⟨_,(Option.some.inj h).symm,by decide,by decide+kernel⟩
 |i+2,h=>simp at h
theorem af2 {T:T6}:trow T++Str.ofString "\nroad 0\nroad 1\nturn 0" = ktext T:=by
 unfold ktext;rw[qr];show _=(trow T++Str.ofString "\n")++Str.join (Str.ofString "\n") [Str.ofString "road 0",Str.ofString "road 1",Str.ofString "turn 0"];rw[show Str.ofString "\nroad 0\nroad 1\nturn 0" = Str.ofString "\n" ++Str.join (Str.ofString "\n") [Str.ofString "road 0",Str.ofString "road 1",Str.ofString "turn 0"] by decide+kernel];refine Co ?_;simp only[PySem.Str.cps_append,Array.toList_append,List.append_assoc]
noncomputable def Xq (T:T6) (k:Int):List (Str×Str):=E_ 2++ [(Str.ofString "quiet",Str.ofString "yes"),(Str.ofString "run " ++dec k,Str.ofString "0"),(Str.ofString "bound",dec (bnd T))]++ [(Str.ofString "kept",ktext T)]
theorem NK {T:T6} {k:Int} (h0:0<=k) (h1:k<=4000): ∀w∈Xq T k,Ask T w.1 w.2:=by
 intro w hw;have sd: ∀(w z a:Str) (s:Int),(s=0\/s=1)->BL w->z=Txt.join (Str.ofString " ") [w,dec s]->a=DG w->Ask T z a:=fun w z a s i hw d j=> .inr (.inr ⟨w,s,i,hw,d,j⟩);unfold Xq E_ at hw;simp only[List.mem_append,List.mem_cons,List.not_mem_nil,or_false] at hw;rcases hw with((rfl|rfl|rfl|rfl|rfl|rfl|rfl|rfl)|(rfl|rfl|rfl))|rfl
 ·exact sd "state" _ _ 0 (.inl rfl) (.inl rfl) (by decide+kernel) (by decide)
 ·exact sd "stand" _ _ 0 (.inl rfl) (.inr (.inl rfl)) (by decide+kernel) (by decide)
 ·exact sd "in" _ _ 0 (.inl rfl) (.inr (.inr (.inl rfl))) (by decide+kernel) (by decide)
 ·exact sd "out" _ _ 0 (.inl rfl) (.inr (.inr (.inr rfl))) (by decide+kernel) (by decide)
 ·exact sd "state" _ _ 1 (.inr rfl) (.inl rfl) (by decide+kernel) (by decide)
 ·exact sd "stand" _ _ 1 (.inr rfl) (.inr (.inl rfl)) (by decide+kernel) (by decide)
 ·exact sd "in" _ _ 1 (.inr rfl) (.inr (.inr (.inl rfl))) (by decide+kernel) (by decide)
 ·exact sd "out" _ _ 1 (.inr rfl) (.inr (.inr (.inr rfl))) (by decide+kernel) (by decide)
 ·exact .inr (.inl ⟨.inl rfl,rfl⟩)
 ·
  refine .inl ⟨k,⟨h0,h1⟩,?_,rfl⟩;rw[qr];show _=(Str.ofString "run" ++Str.ofString " ")++dec k;rw[show Str.ofString "run" ++Str.ofString " " = Str.ofString "run " by decide+kernel]
 ·exact .inr (.inl ⟨.inr (.inl rfl),by unfold wc;rw[if_neg (show¬Str.ofString "bound" = Str.ofString "quiet" by decide),if_neg (show¬Str.ofString "bound" = Str.ofString "kept" by decide)]⟩)
 ·exact .inr (.inl ⟨.inr (.inr rfl),by unfold wc;rw[if_neg (show¬Str.ofString "kept" = Str.ofString "quiet" by decide),if_pos rfl]⟩)
theorem Mq {xs:List V} {j:Nat} (h:j<=xs.length):(k9 xs (some (j:Int)) none++k9 xs none (some (j:Int))).length=xs.length:=by
 unfold k9;rw[HT.FE,HT.FE,HT.DL,HT.DL,Nat.min_eq_left h];simp;lia
theorem Mp {xs:List V} {j:Nat}: ∀x∈k9 xs (some (j:Int)) none++k9 xs none (some (j:Int)),x∈xs:=by
 intro x hx;rcases List.mem_append.mp hx with h|h<;>exact List.mem_of_mem_drop (List.mem_of_mem_take h)
include T in theorem AU:FA P w K mg base "_law_asked" 15 ["_law_desk","_law_numbers_here","_law_cell"] (oN bo aO aD aG aC aB ag aE ay aI ar aJ aK ao ak aq aH az aA av aw aM):=by
 exists 0,T.qA,bV,oN;rename_i d p c;refine qex (fZ ⟨(a8 3 bV.1.nd (bS jJ))⟩
 (fY (fZ ⟨(rL PassesOwn.never rfl (bC K rfl (bS (cK aT aT))) (a6 4 bV.1.nd) (aj (a8 3 bV.1.nd (a9 K (pv 3) (bS (eQ (j2 (cK (a9 K aT (pv 4)) aT)) (eQ (j2 (cK (a9 K aT (pv 4)) aT)) (cK (j2 (cK (a9 K aT (pv 4)) aT)) (j2 (cK (a9 K aT (pv 4)) aT))))))))))⟩
 (fY (fZ (FL (i:=3) bV.1.nd rfl (Or.inl rfl) (Yi (FY K rfl) ⟨(pv 3)⟩ (UI (CL (EI (CL ⟨aT⟩ (CL ⟨aT⟩ CN))) (CL (EI (CL ⟨(a9 K aT (cb fU (by rfl) T.oG mQ (bI (bz jj (pv 2) au))))⟩ (CL ⟨aT⟩ CN))) (CL (EI (CL ⟨aT⟩ (CL ⟨(cb fU (by rfl) T.oG mQ (bI (aW (AS T) HR (bI (pv 1)))))⟩ CN))) CN))))))
 (fY (fZ ⟨(jf (qd K rfl (pv 3) (j2 (cK aT (a9 K (aW (oz T) HR (bI (pv 1))) aT)))))⟩
 (fY (fZ ⟨(a8 5 bV.1.nd (bz jj (bz sX (pv 2) au) (aL (bF K rfl) (by rfl) T.hV cF (bI (pv 3)))))⟩
 (fY (fZ ⟨(rL PassesOwn.never rfl (bC K rfl (a9 K (nF (Ex K rfl) (pv 3) (ou (pv 5)) sT) (nF (Ex K rfl) (pv 3) sT (ou (pv 5))))) (sV K (n:=2) rfl rfl (mR (a6 6 bV.1.nd) (mR (a6 7 bV.1.nd) sU))) (ae (a8 8 bV.1.nd (jg (pv 0) T.j4 (rO T) HR (bI (pv 6))))
 (aj (bG (PW.pt (pw_or (lA (qS (aL (km K rfl) (by rfl) T.bf bg (cK (pv 8) (mS rfl T.oG mQ))))) (pw_or1 (qc K HR (pv 8) (pv 7))))) (aj (aF au)) bc))))⟩
 (fY (CK ⟨(aF (aL (bF K rfl) (by rfl) T.hV cF (bI (pv 3))))⟩))))))))))))) ?_
 obtain⟨dx,y,n,G,hd,hA,hp,q⟩:=h;generalize h_u1:aP _=u1;exists 9;intro p1 np1;have S1:=af (o:= .lst []) np1;have h1:upd H p1 (.lst []) p1=some (.lst []):=aa;generalize upd H p1 (.lst [])=H1 at*
 rw[<-h_u1,aP];generalize h_u2:aP _=u2;exists 9;intro p2 np2;have S2:=S1.trans (af (o:= .lst [V.str (Str.ofString "0"),V.str (Str.ofString "1")]) np2);have h12:=af (o:= .lst [V.str (Str.ofString "0"),V.str (Str.ofString "1")]) np2 _ _ h1;have h2:upd H1 p2 (.lst [V.str (Str.ofString "0"),V.str (Str.ofString "1")]) p2=some (.lst [V.str (Str.ofString "0"),V.str (Str.ofString "1")]):=aa;generalize upd H1 p2 (.lst [V.str (Str.ofString "0"),V.str (Str.ofString "1")])=H2 at*
 refine vE (bO.of h2) (fun i σ H'=>a7 H H'/\a7 H2 H'/\∃pd v xs,σ= [some (V.ref d),some (V.ref p),some (V.int c),some (V.ref pd),v,none,none,none,none]/\Due H' pd (E_ i) xs) ⟨S2,a7.refl _,p1,none,[],rfl,h12,.nil⟩ (fun i σ H' _ h=>bO.of (h.2.1 _ _ h2)) (fun i x σ H' hx h=>?_) (fun σ H' h=>?_)
 ·
  obtain⟨sm,s2,pd,v,xs,rfl,E,pr⟩:=h;obtain⟨zs,rfl,hz,ed⟩:=LG hx;have hxs:=ji pr;exists E;have lz: ∀w:Str,w.length<=6->w.length+zs.length<=sizeLine:=fun w hw=>by rw[sizeLine_eq];lia
  refine⟨lz _ (by decide),fun B n1=>⟨lz _ (by decide),fun C O=>⟨lz _ (by decide),fun s n3=>⟨lz _ (by decide),fun m n4 pl nl=>?_⟩⟩⟩⟩;have Q:=(((af (o:= .tup [V.str (Str.ofString "state " ++zs),V.str (Str.ofString "shut")]) n1).trans (af (o:= .tup [V.str (Str.ofString "stand " ++zs),V.str (Str.ofString "0 0 1 0 0")]) O)).trans (af (o:= .tup [V.str (Str.ofString "in " ++zs),V.str (Str.ofString "")]) n3)).trans (af (o:= .tup [V.str (Str.ofString "out " ++zs),V.str (Str.ofString "")]) n4);have Q:=Q.trans (af (o:= .lst [V.ref B,V.ref C,V.ref s,V.ref m]) nl);have g1:=af (o:= .lst [V.ref B,V.ref C,V.ref s,V.ref m]) nl _ _ (af (o:= .tup [V.str (Str.ofString "out " ++zs),V.str (Str.ofString "")]) n4 _ _ (af (o:= .tup [V.str (Str.ofString "in " ++zs),V.str (Str.ofString "")]) n3 _ _ (af (o:= .tup [V.str (Str.ofString "stand " ++zs),V.str (Str.ofString "0 0 1 0 0")]) O _ _ (aa (H:=H') (a:=B) (o:= .tup [V.str (Str.ofString "state " ++zs),V.str (Str.ofString "shut")])))));have g2:=af (o:= .lst [V.ref B,V.ref C,V.ref s,V.ref m]) nl _ _ (af (o:= .tup [V.str (Str.ofString "out " ++zs),V.str (Str.ofString "")]) n4 _ _ (af (o:= .tup [V.str (Str.ofString "in " ++zs),V.str (Str.ofString "")]) n3 _ _ (aa (a:=C) (o:= .tup [V.str (Str.ofString "stand " ++zs),V.str (Str.ofString "0 0 1 0 0")]))));have g3:=af (o:= .lst [V.ref B,V.ref C,V.ref s,V.ref m]) nl _ _ (af (o:= .tup [V.str (Str.ofString "out " ++zs),V.str (Str.ofString "")]) n4 _ _ (aa (a:=s) (o:= .tup [V.str (Str.ofString "in " ++zs),V.str (Str.ofString "")])));have g4:=af (o:= .lst [V.ref B,V.ref C,V.ref s,V.ref m]) nl _ _ (aa (a:=m) (o:= .tup [V.str (Str.ofString "out " ++zs),V.str (Str.ofString "")]));have gl:=aa (H:=(upd (upd (upd (upd H' B (HO.tup [V.str (Str.ofString "state " ++zs),V.str (Str.ofString "shut")])) C (HO.tup [V.str (Str.ofString "stand " ++zs),V.str (Str.ofString "0 0 1 0 0")])) s (HO.tup [V.str (Str.ofString "in " ++zs),V.str (Str.ofString "")])) m (HO.tup [V.str (Str.ofString "out " ++zs),V.str (Str.ofString "")]))) (a:=pl) (o:=HO.lst [V.ref B,V.ref C,V.ref s,V.ref m]);generalize upd (upd (upd (upd (upd H' B (HO.tup [V.str (Str.ofString "state " ++zs),V.str (Str.ofString "shut")])) C (HO.tup [V.str (Str.ofString "stand " ++zs),V.str (Str.ofString "0 0 1 0 0")])) s (HO.tup [V.str (Str.ofString "in " ++zs),V.str (Str.ofString "")])) m (HO.tup [V.str (Str.ofString "out " ++zs),V.str (Str.ofString "")])) pl (HO.lst [V.ref B,V.ref C,V.ref s,V.ref m])=H3 at*
  have hL:=LH i;rw[kb];refine .inl ⟨_,_,_,_,rfl,rfl,Q _ _ E,gl,by rw[sizeLine_eq,List.length_map];simp;lia,fun w nw=>?_⟩;have S4:=Q.trans (af (o:= .lst (xs.map V.ref++ [V.ref B,V.ref C,V.ref s,V.ref m])) nw);refine⟨sm.trans S4,s2.trans S4,w,_,xs++ [B,C,s,m],rfl,?_,?_⟩
  ·rw[List.map_append];exact aa
  ·
   rw[ed];have nb:=af (o:= .lst (xs.map V.ref++ [V.ref B,V.ref C,V.ref s,V.ref m])) nw;exact CP (bq pr fun _ _ q=>S4 _ _ q) (.cons (nb _ _ g1) (.cons (nb _ _ g2) (.cons (nb _ _ g3) (.cons (nb _ _ g4) .nil))))
 ·
  obtain⟨sm,s2,pd,v,xs,rfl,E,pr⟩:=h;clear h2 h12 S2 s2;show u2 _ _ _;rw[<-h_u2,aP];generalize h_u3:aP _=u3;exists E,sm _ _ hp;have hL:xs.length=8:=(ji pr).trans rfl;have m0:=Int.emod_nonneg c (show(4001:Int)≠0 by decide);have m1:=Int.emod_lt_of_pos c (show(0:Int)<4001 by decide);generalize c % 4001=k at m0 m1⊢;have Y:G.ok:=by obtain⟨_,_,_,_,_,_,_,X⟩:=hA;exact X.ok
  have hb:=Xy Y;have l1:=uy m0 9 (by decide) (by lia);intro B n1;refine⟨k,rfl,vU m0 (by lia),by rw[sizeLine_eq,show(Str.ofString "run ").length=4 by decide];show 4+(dec k).length<=_;lia,fun C O=>?_⟩;have Q:=(af (o:= .tup [V.str (Str.ofString "quiet"),V.str (Str.ofString "yes")]) n1).trans (af (o:= .tup [V.str (Str.ofString "run " ++Str.ofString (toString k)),V.str (Str.ofString "0")]) O);have g1:=af (o:= .tup [V.str (Str.ofString "run " ++Str.ofString (toString k)),V.str (Str.ofString "0")]) O _ _ (aa (H:=H') (a:=B) (o:= .tup [V.str (Str.ofString "quiet"),V.str (Str.ofString "yes")]));have g2:=aa (H:=upd H' B (.tup [V.str (Str.ofString "quiet"),V.str (Str.ofString "yes")])) (a:=C) (o:= .tup [V.str (Str.ofString "run " ++Str.ofString (toString k)),V.str (Str.ofString "0")]);clear O;generalize upd (upd H' B (.tup [V.str (Str.ofString "quiet"),V.str (Str.ofString "yes")])) C (.tup [V.str (Str.ofString "run " ++Str.ofString (toString k)),V.str (Str.ofString "0")])=H3 at*
  refine⟨G,Y,Q _ _ (sm _ _ hp),fun H4 S4=>⟨bnd G,rfl,vU hb.1 hb.2,fun s n3 pl nl=>?_⟩⟩;have S5:=S4.trans ((af (o:= .tup [V.str (Str.ofString "bound"),V.str (Str.ofString (toString (bnd G)))]) n3).trans (af (o:= .lst [V.ref B,V.ref C,V.ref s]) nl));have g3:=af (o:= .lst [V.ref B,V.ref C,V.ref s]) nl _ _ (aa (H:=H4) (a:=s) (o:= .tup [V.str (Str.ofString "bound"),V.str (Str.ofString (toString (bnd G)))]));have gl:=aa (H:=upd H4 s (.tup [V.str (Str.ofString "bound"),V.str (Str.ofString (toString (bnd G)))])) (a:=pl) (o:=HO.lst [V.ref B,V.ref C,V.ref s]);clear n3 nl;generalize upd (upd H4 s (.tup [V.str (Str.ofString "bound"),V.str (Str.ofString (toString (bnd G)))])) pl (.lst [V.ref B,V.ref C,V.ref s])=H5 at*
  rw[kb];refine .inl ⟨_,_,_,_,rfl,rfl,S5 _ _ (Q _ _ E),gl,by rw[sizeLine_eq,List.length_map];simp;lia,fun pe ne=>?_⟩;have S6:=af (o:= .lst (xs.map V.ref++ [V.ref B,V.ref C,V.ref s])) ne;have D6:Due (upd H5 pe (.lst (xs.map V.ref++ [V.ref B,V.ref C,V.ref s]))) pe (E_ 2++ [(Str.ofString "quiet",Str.ofString "yes"),(Str.ofString "run " ++dec k,Str.ofString "0"),(Str.ofString "bound",dec (bnd G))]) (xs++ [B,C,s]):=⟨by rw[List.map_append];exact aa,CP (bq pr fun _ _ q=>S6 _ _ (S5 _ _ (Q _ _ q))) (.cons (S6 _ _ (S5 _ _ g1)) (.cons (S6 _ _ (S5 _ _ g2)) (.cons (S6 _ _ g3) .nil)))⟩;have pf: ∀{b u},H b=some u->b≠pe:=fun e=>ax (S5 _ _ (Q _ _ (sm _ _ e))) ne;have S06:=((sm.trans Q).trans S5).trans S6;show u3 _ _ (upd H5 pe (.lst (xs.map V.ref++ [V.ref B,V.ref C,V.ref s])));generalize upd H5 pe (.lst (xs.map V.ref++ [V.ref B,V.ref C,V.ref s]))=H6 at*
  have hL6:(xs++ [B,C,s]).length=11:=by simp[hL]
  generalize xs++ [B,C,s]=ys at*
  clear Q S4 S5 S6 g1 g2 g3 gl E pr sm hL ne;obtain⟨J,pr6⟩:=D6;rw[<-h_u3,aP];generalize h_u4:aP _=u4;exists J,S06 _ _ hp;refine⟨qX (bO.of J),G,Y,rfl,fun H7 S7=>⟨by rw[sizeLine_eq,show(Str.ofString "\nroad 0\nroad 1\nturn 0").length=21 by decide];have:=uO Y;lia,fun m n4=>⟨_,af n4 _ _ (S7 _ _ J),by rw[sizeLine_eq,List.length_map];lia,?_⟩⟩⟩;rw[af2];have S8:=S7.trans (af (o:= .tup [V.str (Str.ofString "kept"),V.str (ktext G)]) n4);have g4:=aa (H:=H7) (a:=m) (o:= .tup [V.str (Str.ofString "kept"),V.str (ktext G)]);have pd8:=S8 _ _ J;have D9:Due (upd (upd H7 m (.tup [V.str (Str.ofString "kept"),V.str (ktext G)])) pe (.lst (ys.map V.ref++ [V.ref m]))) pe (Xq G k) (ys++ [m]):=by
   have kp: ∀{b:Addr} {w:Str×Str},PrT (upd H7 m (.tup [V.str (Str.ofString "kept"),V.str (ktext G)])) b w->PrT (upd (upd H7 m (.tup [V.str (Str.ofString "kept"),V.str (ktext G)])) pe (.lst (ys.map V.ref++ [V.ref m]))) b w:=fun{b w} e=>by
    have e':upd H7 m (.tup [V.str (Str.ofString "kept"),V.str (ktext G)]) b=some (.tup [.str w.1,.str w.2]):=e;show upd _ pe _ b=_;rw[ah (gC e' pd8 (by simp))];exact e'
   exact⟨by rw[List.map_append];exact aa,CP (bq pr6 fun _ _ q=>kp (S8 _ _ q)) (.cons (kp g4) .nil)⟩
  have K9:a7 H (upd (upd H7 m (.tup [V.str (Str.ofString "kept"),V.str (ktext G)])) pe (.lst (ys.map V.ref++ [V.ref m]))):=fun b u e=>by rw[ah (pf e)];exact S8 _ _ (S06 _ _ e)
  generalize upd (upd H7 m (.tup [V.str (Str.ofString "kept"),V.str (ktext G)])) pe (.lst (ys.map V.ref++ [V.ref m]))=H9 at*
  have W:(ys++ [m]).length=12:=by simp[hL6]
  generalize ys++ [m]=zs at*
  clear pd8 g4 S8 S7 n4 J pr6 hL6 S06 pf;obtain⟨I,pr9⟩:=D9;rw[<-h_u4,aP];generalize h_u5:aP _=u5;exists I;rw[List.length_map,W];refine⟨by decide,?_⟩;obtain⟨j,hj,jl⟩: ∃j:Nat,c / 7 % ((12:Nat):Int)=j/\j<12:=by
   have a:=Int.emod_nonneg (c / 7) (show((12:Nat):Int)≠0 by decide);have b:=Int.emod_lt_of_pos (c / 7) (show(0:Int)<((12:Nat):Int) by decide);exact⟨(c / 7 % ((12:Nat):Int)).toNat,by lia,by lia⟩
  rw[hj];rw[<-h_u5,aP];generalize h_u6:aP _=u6;exists I;refine j_ (bO.of I) fun b1 m1=>?_;have s1:=af (o:= .lst (k9 (zs.map V.ref) (some (j:Int)) none)) m1;have e1:=aa (H:=H9) (a:=b1) (o:= .lst (k9 (zs.map V.ref) (some (j:Int)) none));show ID K (V.ref pe) none (some (j:Int)) (upd H9 b1 (.lst (k9 (zs.map V.ref) (some (j:Int)) none))) _;generalize upd H9 b1 (.lst (k9 (zs.map V.ref) (some (j:Int)) none))=H10 at*
  refine j_ (bO.of (s1 _ _ I)) fun b2 m2=>?_;have s2:=s1.trans (af (o:= .lst (k9 (zs.map V.ref) none (some (j:Int)))) m2);have e2:=aa (H:=H10) (a:=b2) (o:= .lst (k9 (zs.map V.ref) none (some (j:Int))));have e1:=af (o:= .lst (k9 (zs.map V.ref) none (some (j:Int)))) m2 _ _ e1;show tL K (V.ref b1) (V.ref b2) (upd H10 b2 (.lst (k9 (zs.map V.ref) none (some (j:Int))))) _;generalize upd H10 b2 (.lst (k9 (zs.map V.ref) none (some (j:Int))))=H11 at*
  have rl:=Mq (xs:=zs.map V.ref) (j:=j) (by rw[List.length_map,W];lia);have rm:=Mp (xs:=zs.map V.ref) (j:=j);rw[List.length_map,W] at rl;rw[kb];refine .inl ⟨_,_,_,_,rfl,rfl,e1,e2,by rw[<-List.length_append,rl,sizeLine_eq];lia,fun b3 m3=>?_⟩;generalize k9 (zs.map V.ref) (some (j:Int)) none++k9 (zs.map V.ref) none (some (j:Int))=ls at*
  have s3:=s2.trans (af (o:= .lst ls) m3);have e3:=aa (H:=H11) (a:=b3) (o:= .lst ls);show uV K (V.ref b3) (upd H11 b3 (.lst ls)) _;generalize upd H11 b3 (.lst ls)=U at*
  have S12:=K9.trans s3;have Z:=S12 _ _ hd;have A12:=hA.sm S12;have pe12:=s3 _ _ I;have lsP: ∀{i:Nat} {x:V},ls[i]?=some x->∃b w,x = .ref b/\PrT U b w/\Ask G w.1 w.2:=fun{i x} e=>by
   obtain⟨b,hb,rfl⟩:=List.mem_map.mp (rm x (List.mem_of_getElem? e));obtain⟨i',hi'⟩:=List.getElem?_of_mem hb;obtain⟨w,hw,hP⟩:=qe pr9 hi';exact⟨b,w,rfl,s3 _ _ hP,NK m0 (by lia) w (List.mem_of_getElem? hw)⟩
  clear s3 s2 s1 K9 e1 e2 m1 m2 m3 rm pr9 I;have ny: ∃o,U y=some o/\hk o=2:=by
   obtain⟨dy,tm,dl,d0,d1,wl,wk,X⟩:=A12;exact⟨_,X.hx,rfl⟩
  obtain⟨oy,ey,ky⟩:=ny;have off: ∀{H':Hp} {b:Addr} {o:HO},Fd d y U H'->U b=some o->hk o=0->H' b=some o:=fun F e z=>F _ _ e (xU e Z (by rw[show hk (.ins bo dx (br (.ref y) (.int n)))=1 from rfl];decide) z) (xU e ey (by rw[ky];decide) z);refine vE (bO.of e3) (fun i σ H'=>Fd d y U H'/\H' d=some (.ins bo dx (br (.ref y) (.int (n+i))))/\bQ aO aD aG aC aB ag aE ay aH (tbl aI ar aJ aK ao ak aq) H' y G (decide (0<i))/\∃v1 v2 v3,σ= [some (V.ref d),some (V.ref p),some (V.int c),some (V.ref pe),v,some (V.int j),v1,v2,v3]) ⟨fun c u e _ _=>e,by rw[Z];simp,A12,_,_,_,rfl⟩ (fun i σ H' _ h=>bO.of (off h.1 e3 rfl)) (fun i x σ H' hx h=>?_) (fun σ H' h=>?_)
  ·
   obtain⟨F,E,A',v1,v2,v3,rfl⟩:=h;obtain⟨b,w,rfl,hP,hw⟩:=lsP hx;have hP':=off F hP rfl;exists hP',E;refine⟨dx,_,_,rfl,.inr ⟨hw.oth,.inr ⟨y,G,_,rfl,A',.inl ⟨w.2,hw,fun H2 F2 d2 A2=>?_⟩⟩⟩⟩;rw[if_neg (not_not_intro rfl)];refine⟨fun c u e n1 O=>F2 _ _ (F _ _ e n1 O) n1 O,?_,?_,_,_,_,rfl⟩
   ·rw[show(n+((i+1:Nat):Int))=n+i+1 by lia];exact d2
   ·rw[decide_eq_true (Nat.succ_pos i)];exact A2
  ·
   obtain⟨F,E,A',v1,v2,v3,rfl⟩:=h;rw[rl] at E A';have hpe:=off F pe12 rfl;show u6 _ _ _;rw[<-h_u6,aP];exists hpe;rw[List.length_map,W];exact q H' (fun c u e n1 O=>F _ _ (S12 _ _ e) n1 O) E A'
theorem Ip {K:W.Frag} {H H':Hp} {a:Addr} {xs:List V} (h:bO K H a xs) (s:a7 H H'):bO K H' a xs:=by
 rcases h with(h|⟨o,h⟩)|h
 ·exact .inl (.inl (s _ _ h))
 ·exact .inl (.inr ⟨o,s _ _ h⟩)
 ·exact .inr h
theorem Va (T:Txt K mg):FnAt P w K mg base XO "law" 16 ["_law_script"] (BK K):=by
 refine T.Gz.fn nk.1 nk.2 (fun vs H Q E h=>?_) fun f cdv A outer s H vs Q E d h=>?_
 ·unfold BK at h;split at h<;>first|rfl|exact h.elim
 ·
  unfold BK at h;split at h
  ·
   rename_i a;obtain⟨ns,hS,hl,hq,q⟩:=h;refine qex (fZ ⟨(a8 1 nk.1.nd (M5 T.j4 (wM T) d (by decide) rfl))⟩
 (fY (fZ ⟨(rL PassesOwn.never rfl (bC K rfl (nF (Ex K rfl) (pv 0) (ou au) (ou au))) (a6 2 nk.1.nd) (aj (bG (lA (qS (aW (mF T) d (eQ (pv 1) (cK (aW (AR T) d (bI (pv 2))) au))))) (aj (aF zH)) bc)))⟩
 (fY (fZ ⟨(a8 3 nk.1.nd au)⟩
 (fY (fZ ⟨(rL PassesOwn.never rfl (bC K rfl (bS (cK (aW (qR T) d (cK (pv 0) au)) (aW (qR T) d (cK (pv 0) au))))) (a6 2 nk.1.nd) (ae (a8 4 nk.1.nd (aW (yp T) d (bI (pv 2))))
 (bb (ae (bG (qc K d (jg (pv 1) T.j4 (rO T) d (bI (aW (oz T) d (bI (pv 4))))) aT) (aj (aF zH)) bc)
 (bb (ae (a8 5 nk.1.nd (aW (AU T) d (eQ (pv 1) (cK (pv 4) (pv 2)))))
 (bb (ae (a8 3 nk.1.nd (a9 K (a9 K (pv 3) au) (pv 5)))
 (bb (ae (a8 6 nk.1.nd (aZ K (bS (eQ aT (eQ aT (cK aT aT)))) (bz jj (bz sX (pv 2) au) au)))
 (bb (aj (bG (PW.pt (pw_or (cZ K d (pv 5) au) (pw_or (lA (qS (aW (mF T) d (eQ (pv 1) (cK (pv 6) (pv 3)))))) (pw_or1 (lA (qS (aW (mF T) d (eQ (pv 1) (cK (pv 6) (pv 3)))))))))) (aj (aF zH)) bc)))))))))))))⟩
 (fY (CK ⟨(aF zH)⟩))))))))) ?_
   generalize h_u1:aP _=u1;exists 9;intro x dx nx ndx _;refine⟨dx,rfl,?_⟩;have hx:upd (upd H dx (.own x)) x (.ins bo dx (br .non (.int 0))) x=some (.ins bo dx (br .non (.int 0))):=aa;have S1:a7 H (upd (upd H dx (.own x)) x (.ins bo dx (br .non (.int 0)))):=jM nx ndx;have hS1:=Ip hS S1;generalize upd (upd H dx (.own x)) x (.ins bo dx (br .non (.int 0)))=H1 at*
   rw[<-h_u1,aP];generalize h_u2:aP _=u2;exists 9;refine j_ hS1 fun l nl=>?_;have S2:=af (o:= .lst (k9 (ns.map V.int) (some 2) (some 22))) nl;have hl2:=aa (H:=H1) (a:=l) (o:= .lst (k9 (ns.map V.int) (some 2) (some 22)));show uV K (V.ref l) (upd H1 l (.lst (k9 (ns.map V.int) (some 2) (some 22)))) _;generalize upd H1 l (.lst (k9 (ns.map V.int) (some 2) (some 22)))=H2 at*
   have hm: ∀v∈k9 (ns.map V.int) (some 2) (some 22),∃i:Int,v = .int i:=fun v hv=>by
    obtain⟨i,_,rfl⟩:=List.mem_map.mp (List.mem_of_mem_drop (List.mem_of_mem_take hv));exact⟨i,rfl⟩
   generalize k9 (ns.map V.int) (some 2) (some 22)=cs at*
   refine vE (bO.of hl2) (fun i σ H'=>a7 H2 H'/\∃v,σ= [some (V.ref a),some (V.ref x),v,none,none,none,none]) ⟨a7.refl _,_,rfl⟩ (fun i σ H' _ h=>bO.of (h.1 _ _ hl2)) (fun i y σ H' F h=>?_) (fun σ H' h=>?_)
   ·
    obtain⟨sm,v,rfl⟩:=h;obtain⟨c,rfl⟩:=hm y (List.mem_of_getElem? F);exists 9;intro z H3 S3 hz;exact⟨dx,_,S3 _ _ (sm _ _ (S2 _ _ hx)),hz,.inl rfl,fun H4 S4=>⟨(sm.trans S3).trans S4,_,rfl⟩⟩
   ·
    obtain⟨sm,v,rfl⟩:=h;have hx3:=sm _ _ (S2 _ _ hx);have hS3:=Ip hS1 (S2.trans sm);show u2 _ _ _;rw[<-h_u2,aP];generalize h_u3:aP _=u3;exists 9;rw[<-h_u3,aP];generalize h_u4:aP _=u4;exists 9;refine⟨ns,hS3,fun c0=>⟨ns,hS3,fun c1 p np=>?_⟩⟩;have hp:=aa (H:=H') (a:=p) (o:= .lst [V.int c0,V.int c1]);have hx5:=af (o:= .lst [V.int c0,V.int c1]) np _ _ hx3;generalize upd H' p (.lst [V.int c0,V.int c1])=H5 at*
    refine vE (bO.of hp) (fun i σ H'=>(∀b l,H5 b=some (.lst l)->H' b=some (.lst l))/\(∃tk,H' x=some (.ins bo dx (br tk (.int (13*i)))))/\∃v1 v2 v3 v4,σ= [some (V.ref a),some (V.ref x),v1,some (V.int (13*i)),v2,v3,v4]) ⟨fun _ _ e=>e,⟨_,hx5⟩,_,_,_,_,rfl⟩ (fun i σ H' _ h=>bO.of (h.1 _ _ hp)) (fun i y σ H' F h=>?_) (fun σ H' h=>?_)
    ·
     obtain⟨kl,⟨tk,U⟩,v1,v2,v3,v4,rfl⟩:=h;have hi:i<2:=by
      have:=(List.getElem?_eq_some_iff.mp F).1;simpa using this
     obtain⟨c,rfl⟩: ∃c:Int,y = .int c:=by
      match i,F with
      |0,F=>exact⟨_,(Option.some.inj F).symm⟩
      |1,F=>exact⟨_,(Option.some.inj F).symm⟩
     exists 9;intro m pn H6 S6 Y G;have B:=S6 _ _ U;have kl6: ∀b l,H5 b=some (.lst l)->H6 b=some (.lst l):=fun b l e=>S6 _ _ (kl b l e);clear kl U S6;rw[<-h_u4,aP];generalize h_u5:aP _=u5;exists 9;refine⟨dx,_,B,sv,m,Y,G,fun H7 W=>⟨dx,tk,_,W _ _ B,.inl ⟨m,rfl,Y,fun y H8 B8 x8 A8=>?_⟩⟩⟩;have n: ∀{b l},H6 b=some (.lst l)->H8 b=some (.lst l):=fun e=>B8 _ _ (W _ _ e) (gC (W _ _ e) (W _ _ B) (by simp));have O:=n G;have C: ∀b l,H5 b=some (.lst l)->H8 b=some (.lst l):=fun b l e=>n (kl6 b l e);clear kl6 n G W B8 B;refine Lu fun DD eDD=>?_;rw[<-h_u5,aP];generalize h_u6:aP _=u6;exists 9;have x8':=x8;refine⟨dx,y,_,m,x8,A8,O,fun H9 F9 x9 A9=>?_⟩;have ny: ∃o,H8 y=some o/\hk o=2:=by
      obtain⟨dy,tm,dl,d0,d1,wl,wk,X⟩:=A8;exact⟨_,X.hx,rfl⟩
     obtain⟨oy,ey,ky⟩:=ny;have kl9: ∀b l,H5 b=some (.lst l)->H9 b=some (.lst l):=fun b l e=>F9 _ _ (C b l e) (gC (C b l e) x8 (by simp)) (xU (C b l e) ey (by rw[ky];decide) rfl);clear C F9 ey A8 x8 O;rw[<-h_u6,aP];generalize h_u7:aP _=u7;exists 9;rw[<-h_u7,aP];generalize h_u8:aP _=u8;exists 9;intro pl I;have J:=af (o:= .lst [V.str (Str.ofString "road 0"),V.str (Str.ofString "road 1 -"),V.str (Str.ofString "wish 0 0 begin"),V.str (Str.ofString "wish 400 1 read 60")]) I _ _ x9;have A10:=A9.sm (af (o:= .lst [V.str (Str.ofString "road 0"),V.str (Str.ofString "road 1 -"),V.str (Str.ofString "wish 0 0 begin"),V.str (Str.ofString "wish 400 1 read 60")]) I);have kl10: ∀b l,H5 b=some (.lst l)->upd H9 pl (.lst [V.str (Str.ofString "road 0"),V.str (Str.ofString "road 1 -"),V.str (Str.ofString "wish 0 0 begin"),V.str (Str.ofString "wish 400 1 read 60")]) b=some (.lst l):=fun b l e=>af I _ _ (kl9 b l e);generalize upd H9 pl (.lst [V.str (Str.ofString "road 0"),V.str (Str.ofString "road 1 -"),V.str (Str.ofString "wish 0 0 begin"),V.str (Str.ofString "wish 400 1 read 60")])=H10 at*
     have j0:=Int.emod_nonneg (c / 3) (show(4:Int)≠0 by decide);have j1:=Int.emod_lt_of_pos (c / 3) (show(0:Int)<4 by decide);obtain⟨j,hj⟩: ∃j:Nat,c / 3 % 4=j:=⟨(c / 3 % 4).toNat,by lia⟩;rw[hj] at j0 j1⊢;obtain⟨z,hz,hb⟩: ∃z,[V.str (Str.ofString "road 0"),V.str (Str.ofString "road 1 -"),V.str (Str.ofString "wish 0 0 begin"),V.str (Str.ofString "wish 400 1 read 60")][j]?=some (V.str z)/\XF z:=by
      match j,(show j<4 by lia) with
      |0,_=>exact⟨_,rfl,.inl (.inl rfl)⟩
      |1,_=>exact⟨_,rfl,.inl (.inr rfl)⟩
      |2,_=>exact⟨_,rfl,.inr (.inl rfl)⟩
      |3,_=>exact⟨_,rfl,.inr (.inr rfl)⟩
     refine⟨V.str z,x6 hz,?_⟩;rw[<-h_u8,aP];exists 9;rw[show(13*(i:Int)+1+12)=13*((i+1:Nat):Int) by lia] at*
     refine⟨dx,_,J,hb.oth,.inr ⟨y,m,rfl,A10,hb⟩,fun H11 u=>⟨dx,_,u _ _ J,hb.oth,.inr ⟨y,m,rfl,A10.sm u,hb⟩,fun H12 Z=>?_⟩⟩;rw[eDD];exact⟨fun b l e=>Z _ _ (u _ _ (kl10 b l e)),⟨_,Z _ _ (u _ _ J)⟩,_,_,_,_,rfl⟩
    ·
     obtain⟨_,_,v1,v2,v3,v4,rfl⟩:=h;exact q H'
  ·exact h.elim
end
theorem fin (i:K.In h) (G:h.Ns mainGlobals mg) (a:mg "law" = some (.ref fa)) (T:Txt K mg):
  ∃d:FuncData,(∀(s:Shared) (u:Value),BindsTo s d ⟨[u],[]⟩ [("_law_script",u)])/\∀base:Heap,K.In base->base.Ns mainGlobals mg->uN P w K mg base XO 16 fa d ["_law_script"] (BK K):=
 law_fin a T.Gz nk.2 fun base=>Va T
end K84
noncomputable def PySem.W.Fast.tw9004169121452262009:PySem.Program:=PySem.Challenge.pw_slowroad_k84_desk_newly_told
theorem PySem.W.Fast.te9004169121452262009:PySem.Challenge.pw_slowroad_k84_desk_newly_told=PySem.W.Fast.tw9004169121452262009:=rfl
open PySem PySem.W PyProof.Rows
set_option maxRecDepth 100000 in
set_option maxHeartbeats 0 in
theorem PySem.Challenge.cw_slowroad_k84_desk_newly_told_holds : PySem.Challenge.rw_slowroad_k84_desk_newly_told.Holds := by
 w_on;o_law
 refine holds_open (q:=K84.bU) (loose:=["signs_of_pieces","signs_of_desk"]) (Xt:=fun s=>xlAt K84.bU [] s&&recOk (RowW.records (OpenRow.toRowW (OpenLaw.row Challenge.rw_slowroad_k84_desk_newly_told))) s) (XP:=XL K84.bU []) (Yf:=Hook.obs (kHook K84.AK K84.jC K84.vC)) (Ya:=Hook.val (kHook K84.AK K84.jC K84.vC)) (YP:=Hook.says (kHook K84.AK K84.jC K84.vC)) (N:=24608) K84.ag_ (Hook.of (kHook K84.AK K84.jC K84.vC)) (Hook.keeps (kHook K84.AK K84.jC K84.vC)) (fun s e=>xl_of s (Bool.and_eq_true_iff.mp e).1) XL.keeps (by rfl) (by rfl) (by rfl) (fun s e=>recFacts_of (Bool.and_eq_true_iff.mp e).2) (by rfl) (by first|assumption|decide+kernel) (by decide+kernel) ⟨rfl,rfl,rfl,rfl,rfl,by decide+kernel⟩ ?hw ?hc
 case hw=>w_witness2
 k_fill
 refine L2.Jy (l:=Challenge.rw_slowroad_k84_desk_newly_told) (k:=16) (x:="_law_script") rfl rfl ⟨rfl,by decide,by decide⟩ (fun w h Y=>W.kIn_of Y) ?F
 case F=>
  intro w mg fa h KX G hmg;refine' K84.fin KX G hmg ?TT
  case TT=>
   refine' K84.Txt.mk ?qo ?qi ?mG ?l8 ?bE ?h8 ?cH ?hJ ?jO ?dF ?qp ?qj ?nM ?qk ?mH ?ub ?nJ ?oW ?oV ?rP ?bw ?oY ?oX ?nK ?iG ?jP ?kP ?l7 ?nL ?i8 ?i7 ?jm ?jK ?jV ?qg ?qf ?mi ?mh ?qh ?bZ ?rR ?rS ?jx ?bT ?mY ?i_ ?kQ ?bD ?mW ?mV ?mX ?l6 ?jv ?hZ ?oA ?rQ ?jk ?bJ ?jw ?h_ ?fW ?hU ?j4 ?kh ?bX ?pV ?y_ ?By ?y9 ?pX ?om ?pW ?zc ?Bz ?tQ ?y8 ?BB ?pL ?zZ ?fX ?nz ?cp ?cz ?d5 ?ff ?gs ?gU ?d4 ?fc ?d8 ?fq ?cP ?dc ?dZ ?fb ?d7 ?fj ?gu ?gV ?d6 ?fh ?iC ?iT ?Dy ?rX ?BY ?ib ?pD ?cL ?c7 ?f_ ?gF ?ik ?iH ?f9 ?gE ?gd ?gI ?dG ?eR ?f7 ?gD ?gc ?gH ?ip ?iI ?gb ?gG ?jb ?jn ?BA ?pK ?zY ?ig ?nu ?cn ?cy ?dU ?e7 ?gq ?gS ?dS ?e6 ?dY ?e_ ?cO ?c_ ?dR ?eZ ?dX ?e9 ?gr ?gT ?dW ?e8 ?iB ?iS ?pA ?pO ?qm ?iZ ?nC ?cw ?cD ?eL ?fO ?gA ?g8 ?eK ?fN ?eP ?fR ?cY ?dz ?eJ ?fM ?eO ?fQ ?gB ?g9 ?eN ?fP ?iF ?iW ?pY ?nN ?mf ?bW ?bY ?cU ?dn ?eG ?fK ?cT ?di ?cX ?du ?cv ?cC ?cS ?dh ?cW ?dr ?eI ?fL ?cV ?dq ?gz ?g7 ?sQ ?pJ ?t_ ?cI ?nr ?cm ?cx ?dJ ?eU ?gf ?gJ ?dI ?eT ?dO ?eX ?cM ?c8 ?dH ?eS ?dN ?eW ?gg ?gK ?dM ?eV ?iq ?iJ ?BC ?pN ?nB ?cu ?cB ?eB ?fF ?gx ?gY ?eA ?fE ?eF ?fJ ?cR ?dg ?ez ?fB ?eE ?fH ?gy ?gZ ?eC ?fG ?iE ?iV ?Dz ?rY ?BZ ?ie ?ja ?pE ?cN ?c9 ?gk ?gN ?ir ?iK ?gj ?gM ?gp ?gQ ?dP ?eY ?gi ?gL ?gn ?gP ?iw ?iL ?gm ?gO ?jc ?jo ?sR ?pM ?ua ?iY ?nA ?cq ?cA ?eh ?fv ?gv ?gW ?d_ ?fu ?et ?fA ?cQ ?df ?d9 ?ft ?en ?fz ?gw ?gX ?ek ?fw ?iD ?iU ?yT ?sY ?zX ?j8 ?rK ?dQ ?b9 ?iz ?iO ?jd ?jq ?iy ?iN ?dE ?iR ?cJ ?gR ?dB ?iM ?iA ?iQ ?je ?jr ?dC ?iP ?jN ?jQ ?F5 ?Dd ?wV ?E2 ?E3 ?wR ?wQ ?wU ?Dc ?zW ?F0 ?F3 ?zU ?zS ?zV ?lX ?j7 ?j5 ?j6 ?lQ ?xA ?Ax ?lG ?uF ?xC ?xB ?qw ?mN ?lP ?Fb ?sF ?sE ?lJ ?uC ?lR ?mI ?kW ?o_ ?nY ?sH ?n6 ?sI ?sJ ?nZ ?nX ?n5 ?lO ?xy ?mO ?sL ?qD ?xv ?uE ?nT ?nR ?mK ?sG ?o8 ?qB ?jt ?uH ?mJ ?lI ?sD ?qv ?lF ?nQ ?uB ?nO ?o7 ?xE ?xD ?nP ?uG ?o6 ?xu ?uz ?uA ?sC ?lE ?uD ?Fc ?mM ?mL ?lN ?lM ?lL ?qC ?o9 ?kU ?lK ?mP ?uI ?lS ?kX ?nW ?qx ?nV ?qy ?nU ?lH ?qz ?qA ?Gz ?qH ?vZ ?xI ?mv ?AE ?bf ?hV ?AD ?AB ?LX ?y7 ?oG ?GC ?vY ?LW ?lW ?qG ?pq ?qF ?uK ?sN ?kZ ?lV ?ia ?sM ?vX ?mr ?y4 ?l_ ?lU ?sP ?xH ?n8 ?qE ?m6 ?xG ?ph ?pj
   case qo|bE|qp|ub|bw|jV|bZ|bD|bJ|j4|F5|Dd|wV|E2|E3|wR|wQ|wU=>refine' L2.JA KX G ?a ?pg ?hd ?po ?sa ?mk ?kc;(case a=>k_is);(case pg=>k_is);(case hd=>k_is);(case po=>k_is);(case sa=>k_is);(case mk=>k_is);(case kc=>k_is)
   case qi|mG|l8|h8|cH|hJ|jO|dF|qj|nM|qk|mH|nJ|oW|oV|rP|oY|oX|nK|iG|jP|kP|l7|nL|i8|i7|jm|jK|qg|qf|mi|mh|qh|rR|rS|jx|bT|mY|i_|kQ|mW|mV|mX|l6|jv|hZ|oA|rQ|jk|jw|h_|fW|hU|kh|bX=>refine' L2.Ho ?a;(case a=>k_is)
   case pV|y_|By|y9|pX|om|pW|zc|Bz|tQ|y8=>refine' L2.Ma KX G ?a ?t ?b;(case a=>k_is);(case t=>k_is);(case b=>k_is)
   case BB|Dy|BA|pA|sQ|Dz|sR|yT=>refine' ⟨_,L2.Fs KX G ?a ?l ?o ?i ?t ?l2 ?o2 ?i2 ?t2⟩;(case a=>k_is);(case l=>k_is);(case o=>kernel_rfl);(case i=>k_is);(case t=>k_is);(case l2=>k_is);(case o2=>kernel_rfl);(case i2=>k_is);(case t2=>k_is)
   case pL|rX|pK|pO|nN|pJ|pN|rY|pM|sY=>refine' L2.Mb ?a ?b ?c ?d ?e ?f ?g ?h;(case a=>k_is);(case b=>k_is);(case c=>k_is);(case d=>k_is);(case e=>k_is);(case f=>k_is);(case g=>k_is);(case h=>k_is)
   case zZ|BY|zY|qm|t_|BZ|ua|zX=>k_is
   case fX|ib|ig|iZ|cI|ie|ja|iY|j8=>refine' ⟨?a,?b⟩;(case a=>k_is);(case b=>k_is)
   case nz|cp|d5|gs|d4|d8|cP|dZ|d7|gu|d6|iC|pD|cL|f_|ik|f9|gd|dG|f7|gc|ip|gb|jb|nu|cn|dU|gq|dS|dY|cO|dR|dX|gr|dW|iB|nC|cw|eL|gA|eK|eP|cY|eJ|eO|gB|eN|iF|mf|bW|cU|eG|cT|cX|cv|cS|cW|eI|cV|gz|nr|cm|dJ|gf|dI|dO|cM|dH|dN|gg|dM|iq|nB|cu|eB|gx|eA|eF|cR|ez|eE|gy|eC|iE|pE|cN|gk|ir|gj|gp|dP|gi|gn|iw|gm|jc|nA|cq|eh|gv|d_|et|cQ|d9|en|gw|ek|iD|rK|dQ|iz|jd|iy|dE|cJ|dB|iA|je|dC|jN=>kit_is
   case cz|ff|gU|fc|fq|dc|fb|fj|gV|fh|iT|c7|gF|iH|gE|gI|eR|gD|gH|iI|gG|jn|cy|e7|gS|e6|e_|c_|eZ|e9|gT|e8|iS|cD|fO|g8|fN|fR|dz|fM|fQ|g9|fP|iW|bY|dn|fK|di|du|cC|dh|dr|fL|dq|g7|cx|eU|gJ|eT|eX|c8|eS|eW|gK|eV|iJ|cB|fF|gY|fE|fJ|dg|fB|fH|gZ|fG|iV|c9|gN|iK|gM|gQ|eY|gL|gP|iL|gO|jo|cA|fv|gW|fu|fA|df|ft|fz|gX|fw|iU|b9|iO|jq|iN|iR|gR|iM|iQ|jr|iP|jQ=>refine' (show W.mroIn _ _ _=_ from ?a);(case a=>k_is)
   case pY|BC=>refine' L2.Fs KX G ?a ?l ?o ?i ?t ?l2 ?o2 ?i2 ?t2;(case a=>k_is);(case l=>k_is);(case o=>kernel_rfl);(case i=>k_is);(case t=>k_is);(case l2=>k_is);(case o2=>kernel_rfl);(case i2=>k_is);(case t2=>k_is)
   case Dc|zW|F0|F3|zU|zS|zV=>refine' L2.Jp ?a;(case a=>k_is)
   case lX=>refine' L2.ahq KX G ?a ?b;(case a=>k_is);(case b=>k_is)
   case j7|j5|j6|lQ|mN|lP|lJ|lR|mI|kW|o_|nY|sH|n6|sI|sJ|nZ|nX|n5|lO|mO|sL|qD|mK|sG|o8|qB|jt|uH|mJ|lI|mM|mL|lN|lM|lL|qC|o9|kU|lK|mP|uI|lS|kX=>refine' L2.Ht ?a ?i ?l ?c ?k;(case a=>k_is);(case i=>k_is);(case l=>k_is);(case c=>k_is);(case k=>k_is)
   case xA|Ax|lG|uF|xC|xB|qw|Fb|sF|sE|uC|xy|xv|uE|nT|nR|sD|qv|lF|nQ|uB|nO|o7|xE|xD|nP|uG|o6|xu|uz|uA|sC|lE|uD|Fc|nW|qx|nV|qy|nU|lH|qz|qA|Gz=>refine' L2.LJ KX G ?a ?l ?c ?k;(case a=>k_is);(case l=>k_is);(case c=>k_is);(case k=>k_is)
   case qH|vZ|xI|mv|AE|bf|hV|AD|AB|LX|y7|oG|GC|vY|LW=>refine' W.mg_none_of KX G ?a;(case a=>k_is)
   case lW|qG|pq|qF|uK|sN|kZ|lV|ia|sM|vX|mr|l_|lU|sP|xH|n8|qE|xG=>refine' ⟨_,W.mg_of KX G ?a,?r⟩;(case a=>k_is);(case r=>exact⟨_,rfl⟩)
   case y4|m6=>refine' L2.zh KX G ?a ?l ?c ?d ?e ?z ?r;(case a=>k_is);(case l=>k_is);(case c=>rfl);(case d=>rfl);(case e=>rfl);(case z=>decide);(case r=>exact .cons ⟨_,rfl⟩ (.cons ⟨_,rfl⟩ (.nil)))
   case ph=>refine' L2.zh KX G ?a ?l ?c ?d ?e ?z ?r;(case a=>k_is);(case l=>k_is);(case c=>rfl);(case d=>rfl);(case e=>rfl);(case z=>decide);(case r=>exact .cons ⟨_,rfl⟩ (.cons ⟨_,rfl⟩ (.cons ⟨_,rfl⟩ (.nil))))
   case pj=>refine' L2.zh KX G ?a ?l ?c ?d ?e ?z ?r;(case a=>k_is);(case l=>k_is);(case c=>rfl);(case d=>rfl);(case e=>rfl);(case z=>decide);(case r=>exact .cons ⟨_,rfl⟩ (.cons ⟨_,rfl⟩ (.cons ⟨_,rfl⟩ (.cons ⟨_,rfl⟩ (.nil)))))
#print axioms Challenge.cw_slowroad_k84_desk_newly_told_holds
